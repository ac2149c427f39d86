import PyProof.Rows.All
import Wide.All
import OpenK.AllK
import Wide.FinOn
import Lean
import PyProof.EqAt
import PyProof.EqKinds
import PyProof.TupleCall
import PySem.Challenge.RW_leastmiss_k43_whole_nothing_misses_less
set_option Elab.async false
set_option linter.all false
set_option maxRecDepth 100000
set_option compiler.extract_closed false
namespace L2
open PySem PySem.Spec PyProof.Rows
noncomputable abbrev Key := Sum Int Str
noncomputable def keyIs : Key → Value → Bool
  | .inl k, v => Value.isInt k v
  | .inr x, v => Value.isStrOf x v
noncomputable def keyH (w : World) : Key → Int
  | .inl k => hashInt k
  | .inr x => hashStr w x
theorem keyIs_shape : ∀ {k : Key} {v : Value}, keyIs k v = true → (∃ i t, k = Sum.inl i ∧ v = Value.int i t) ∨ (∃ x t, k = Sum.inr x ∧ v = Value.str x t)
  | .inl i, v, h => by
    obtain ⟨t, e⟩ := Value.isInt_shape (k := i) (v := v) h
    exact .inl ⟨i, t, rfl, e⟩
  | .inr x, v, h => by
    obtain ⟨t, e⟩ := Value.isStrOf_shape (x := x) (v := v) h
    exact .inr ⟨x, t, rfl, e⟩
theorem key_ll (a b : Int) : decide ((Sum.inl a : Key) = Sum.inl b) = (a == b) := by
  by_cases e : a = b
  · subst e; simp
  · have h : ¬ (Sum.inl a : Key) = Sum.inl b := fun q => e (Sum.inl.inj q)
    rw [decide_eq_false h]
    exact (beq_eq_false_iff_ne.mpr e).symm
theorem key_rr (a b : Str) : decide ((Sum.inr a : Key) = Sum.inr b) = decide (a = b) := by
  by_cases e : a = b
  · subst e; simp
  · have h : ¬ (Sum.inr a : Key) = Sum.inr b := fun q => e (Sum.inr.inj q)
    rw [decide_eq_false h, decide_eq_false e]
theorem key_lr (a : Int) (b : Str) : decide ((Sum.inl a : Key) = Sum.inr b) = false := decide_eq_false (fun q => nomatch q)
theorem key_rl (a : Str) (b : Int) : decide ((Sum.inr a : Key) = Sum.inl b) = false := decide_eq_false (fun q => nomatch q)
noncomputable def mixKind (prog : Program) (w : World) : PySem.KeyKind prog w Key where
  is := keyIs
  hash := keyH w
  inj := fun v a b ha hb => by
    rcases keyIs_shape ha with ⟨i, t, rfl, rfl⟩ | ⟨x, t, rfl, rfl⟩
    · rcases keyIs_shape hb with ⟨j, u, rfl, e⟩ | ⟨y, u, rfl, e⟩
      · injection e with e1 _; rw [e1]
      · exact nomatch e
    · rcases keyIs_shape hb with ⟨j, u, rfl, e⟩ | ⟨y, u, rfl, e⟩
      · exact nomatch e
      · injection e with e1 _; rw [e1]
  byValue := fun k v h => by
    rcases keyIs_shape h with ⟨i, t, rfl, rfl⟩ | ⟨x, t, rfl, rfl⟩ <;> rfl
  pyHash := fun hv h => by
    rcases keyIs_shape hv with ⟨i, t, rfl, rfl⟩ | ⟨x, t, rfl, rfl⟩
    · exact wpAny_pyHash_int h
    · exact wpAny_pyHash_str h
  eqBool := fun hu hv h => by
    rcases keyIs_shape hu with ⟨i, t, rfl, rfl⟩ | ⟨x, t, rfl, rfl⟩
    · rcases keyIs_shape hv with ⟨j, u, rfl, rfl⟩ | ⟨y, u, rfl, rfl⟩
      · rw [key_ll] at h; exact wpAny_eqBool_int h
      · rw [key_lr] at h; exact SeqAt.EqAt.int_str i t y u _ _ _ _ h
    · rcases keyIs_shape hv with ⟨j, u, rfl, rfl⟩ | ⟨y, u, rfl, rfl⟩
      · rw [key_rl] at h; exact SeqAt.EqAt.str_int x t j u _ _ _ _ h
      · rw [key_rr] at h; exact wpAny_eqBool_str h
  «strs» := fun k x t v h => by
    rcases keyIs_shape h with ⟨i, u, rfl, e⟩ | ⟨y, u, rfl, e⟩
    · exact nomatch e
    · injection e with e1 _
      subst e1
      cases v <;> rfl
end L2
namespace L2
open PySem PySem.Spec PyProof.Rows
inductive V where
  | non | bl (b : Bool) | int (i : Int) | str (x : Str) | byt (b : Array UInt8) | flt (b : UInt64) | ref (a : Addr) | ty (n : String)
  deriving DecidableEq
noncomputable def RelV : V → Value → Prop
  | .non, u => u = Value.none
  | .bl b, u => u = Value.bool b
  | .int i, u => ∃ t, u = Value.int i t
  | .str x, u => ∃ t, u = Value.str x t
  | .byt b, u => ∃ t, u = Value.bytes b t
  | .flt b, u => ∃ t, u = Value.float b t
  | .ref a, u => u = Value.ref a
  | .ty n, u => u = Value.type n
noncomputable abbrev Vals : List V → List Value → Prop := Paired RelV
theorem Vals.length {xs : List V} {us : List Value} (r : Vals xs us) : xs.length = us.length := Paired.length r
theorem Vals.get : ∀ {xs : List V} {us : List Value} {i : Nat} {x : V}, Vals xs us → xs[i]? = some x → ∃ u, us[i]? = some u ∧ RelV x u
  | _, _, _, _, .nil, e => by simp at e
  | _, _, 0, _, .cons r _, e => by simp at e; subst e; exact ⟨_, rfl, r⟩
  | _, _, i + 1, x, .cons _ t, e => by
    obtain ⟨u, h1, h2⟩ := Vals.get (i := i) (x := x) t (by simpa using e)
    exact ⟨u, by simpa using h1, h2⟩
theorem Vals.set {x : V} {u : Value} (r : RelV x u) : ∀ {xs : List V} {us : List Value} (i : Nat), Vals xs us → Vals (xs.set i x) (us.set i u)
  | _, _, _, .nil => .nil
  | _, _, 0, .cons _ t => .cons r t
  | _, _, i + 1, .cons q t => .cons q (Vals.set r i t)
theorem Vals.append : ∀ {xs ys : List V} {us ws : List Value}, Vals xs us → Vals ys ws → Vals (xs ++ ys) (us ++ ws)
  | _, _, _, _, .nil, s => s
  | _, _, _, _, .cons r t, s => .cons r (Vals.append t s)
theorem Vals.take : ∀ {xs : List V} {us : List Value} (n : Nat), Vals xs us → Vals (xs.take n) (us.take n)
  | _, _, 0, _ => .nil
  | _, _, _ + 1, .nil => .nil
  | _, _, n + 1, .cons r t => .cons r (Vals.take n t)
theorem Vals.drop : ∀ {xs : List V} {us : List Value} (n : Nat), Vals xs us → Vals (xs.drop n) (us.drop n)
  | _, _, 0, r => r
  | _, _, _ + 1, .nil => .nil
  | _, _, n + 1, .cons _ t => Vals.drop n t
noncomputable def RelO : Option V → Option Value → Prop
  | some v, some u => RelV v u
  | none, none => True
  | _, _ => False
noncomputable def KV {κ : Type} : List (κ × V) → List (κ × Value) → Prop := Paired fun (p : κ × V) (q : κ × Value) => p.1 = q.1 ∧ RelV p.2 q.2
noncomputable def kV : Key → V
  | .inl i => .int i
  | .inr x => .str x
inductive HO where
    | lst (xs : List V)
    | tup (xs : List V)
    | dK (kvs : List (Key × V)) | dT (kvs : List (List Key × V))
    | set (S : Int → Bool) (n : Nat)
    | ins (C dx : Addr) (fs : List (Str × V))
    | own (x : Addr)
    | xd (fs : List (Str × V))
    | met (f x : Addr)
    | rng (lo hi : Int)
    | frz (o : Obj) (u : HO)
    | tbl (ps : Array Value)
    | ext (φ : Heap → Prop)
noncomputable abbrev Hp := Addr → Option HO
noncomputable def upd (H : Hp) (a : Addr) (o : HO) : Hp := fun b => if b = a then some o else H b
theorem upd_same {H : Hp} {a : Addr} {o : HO} : upd H a o a = some o := by unfold upd; rw [if_pos rfl]
theorem upd_ne {H : Hp} {a b : Addr} {o : HO} (h : b ≠ a) : upd H a o b = H b := by unfold upd; rw [if_neg h]
theorem ne_of_none {H : Hp} {a b : Addr} {o : HO} (h : H a = some o) (h' : H b = none) : a ≠ b := by
  intro e; subst e; rw [h] at h'; cases h'
section
variable (P : Program) (w : World)
noncomputable def ObjOk (H : Hp) (h : Heap) (a : Addr) : HO → Prop
  | .lst xs => xs.length ≤ sizeLine ∧ ∃ (its : List Value) (n : Nat), Vals xs its ∧ h.get? a = some { cls := .type "list", data := .seq its.toArray n }
  | .tup xs => xs.length ≤ sizeLine ∧ ∃ its : List Value, Vals xs its ∧ IsTup h a its.toArray
  | .dK kvs => kvs.length ≤ sizeLine ∧ (a == sysModules) = false ∧ ∃ vs, KV kvs vs ∧ h.DictOf (mixKind P w) a vs
  | .dT kvs => kvs.length ≤ sizeLine ∧ (a == sysModules) = false ∧ ∃ xs : List (List Key × Addr × Value),
      Paired (fun (p : List Key × V) (q : List Key × Addr × Value) => p.1 = q.1 ∧ H q.2.1 = some (.tup (p.1.map kV)) ∧ RelV p.2 q.2.2) kvs xs ∧
      ∃ o es ep, h.get? a = some o ∧ o.ExactDict ∧ o.data = .dict es ep ∧ es.toList = xs.map (entryOfKey (tupleKind (mixKind P w))) ∧ (xs.map (·.1)).Nodup
  | .set S n => h.SetOf (intKind P w) a S n
  | .ins C dx fs => H dx = some (.own a) ∧ fs.length ≤ 1000 ∧ dx ≠ a ∧ h.get? a = some (PySem.W.instObj C dx) ∧
      ∃ mA, h.Ns1 dx mA ∧ (∀ f, RelO (fs.lookup f) (mA f)) ∧ PySem.Within mA (fs.map (·.1))
  | .own _ => ∃ o, h.get? a = some o
  | .xd fs => ∃ mA, h.Ns1 a mA ∧ ∀ f, RelO (fs.lookup f) (mA f)
  | .rng lo hi => ∃ t u v, h.get? a = some { cls := .type "range", data := .fields #[.int lo t, .int hi u, .int 1 v] }
  | .frz o u => h.get? a = some o ∧ ObjOk H h a u
  | .tbl ps => h.get? a = some { cls := .none, data := .fields ps }
  | .met f x => h.get? a = some (PySem.W.methodObj (.ref f) (.ref x))
  | .ext φ => φ h ∧ (∃ o, h.get? a = some o) ∧ ∀ h1 h2 : Heap, φ h1 → (∀ o, h1.get? a = some o → h2.get? a = some o) → φ h2
noncomputable def HOk (H : Hp) (h : Heap) : Prop := ∀ a o, H a = some o → ObjOk P w H h a o
end
section
variable {P : Program} {w : World} {H H' : Hp} {h h' : Heap} {a : Addr} {o : HO}
theorem ObjOk.lt (x : ObjOk P w H h a o) : a < h.objs.size := by
  cases o with
  | lst xs => obtain ⟨_, _, _, _, e⟩ := x; exact Heap.lt_size e
  | tup xs => obtain ⟨_, _, _, p⟩ := x; exact p.lt
  | dK kvs => obtain ⟨_, _, _, _, o, _, _, e, _⟩ := x; exact Heap.lt_size e
  | dT kvs => obtain ⟨_, _, _, _, o, _, _, e, _⟩ := x; exact Heap.lt_size e
  | set S n => obtain ⟨o, _, _, _, e, _⟩ := x; exact Heap.lt_size e
  | ins C dx fs => obtain ⟨_, _, _, e, _⟩ := x; exact Heap.lt_size e
  | own y => obtain ⟨_, e⟩ := x; exact Heap.lt_size e
  | xd fs => obtain ⟨_, ⟨_, _, _, e, _⟩, _⟩ := x; exact Heap.lt_size e
  | rng lo hi => obtain ⟨_, _, _, e⟩ := x; exact Heap.lt_size e
  | frz ob u => obtain ⟨e, _⟩ := x; exact Heap.lt_size e
  | tbl ps => exact Heap.lt_size (show h.get? a = some _ from x)
  | met f y => exact Heap.lt_size (show h.get? a = some _ from x)
  | ext φ => obtain ⟨_, ⟨_, e⟩, _⟩ := x; exact Heap.lt_size e
theorem Paired.mapP {α β : Type} {F G : α → β → Prop} : ∀ {l₁ : List α} {l₂ : List β}, Paired F l₁ l₂ → (∀ a b, F a b → G a b) → Paired G l₁ l₂
  | _, _, .nil, _ => .nil
  | _, _, .cons r t, f => .cons (f _ _ r) (Paired.mapP t f)
theorem ObjOk.stay (x : ObjOk P w H h a o) (k : ∀ b u, (b = a ∨ H b = some (.own a)) → h.get? b = some u → h'.get? b = some u)
    (ho : ∀ b, H b = some (.own a) → H' b = some (.own a)) (ht : ∀ b xs, H b = some (.tup xs) → H' b = some (.tup xs)) : ObjOk P w H' h' a o := by
  induction o with
  | lst xs => obtain ⟨z, its, n, r, e⟩ := x; exact ⟨z, its, n, r, k _ _ (.inl rfl) e⟩
  | tup xs => obtain ⟨z, its, r, ob, e, c⟩ := x; exact ⟨z, its, r, ob, k _ _ (.inl rfl) e, c⟩
  | dK kvs => obtain ⟨z, y, vs, r, ob, es, ep, e, c⟩ := x; exact ⟨z, y, vs, r, ob, es, ep, k _ _ (.inl rfl) e, c⟩
  | dT kvs =>
    obtain ⟨z, y, xs, r, ob, es, ep, e, c⟩ := x
    exact ⟨z, y, xs, Paired.mapP r fun p q z => ⟨z.1, ht _ _ z.2.1, z.2.2⟩, ob, es, ep, k _ _ (.inl rfl) e, c⟩
  | set S n => obtain ⟨ob, es, ep, t, e, c⟩ := x; exact ⟨ob, es, ep, t, k _ _ (.inl rfl) e, c⟩
  | ins C dx fs =>
    obtain ⟨d, z, ne, e, mA, ⟨od, es, ep, e2, c⟩, r⟩ := x
    exact ⟨ho _ d, z, ne, k _ _ (.inl rfl) e, mA, ⟨od, es, ep, k _ _ (.inr d) e2, c⟩, r⟩
  | own y => obtain ⟨ob, e⟩ := x; exact ⟨ob, k _ _ (.inl rfl) e⟩
  | xd fs => obtain ⟨mA, ⟨od, es, ep, e, c⟩, r⟩ := x; exact ⟨mA, ⟨od, es, ep, k _ _ (.inl rfl) e, c⟩, r⟩
  | rng lo hi => obtain ⟨t, u, v, e⟩ := x; exact ⟨t, u, v, k _ _ (.inl rfl) e⟩
  | frz ob u ih => obtain ⟨e, q⟩ := x; exact ⟨k _ _ (.inl rfl) e, ih q⟩
  | tbl ps =>
    have e : h.get? a = some { cls := .none, data := .fields ps } := x
    show h'.get? a = some { cls := .none, data := .fields ps }
    exact k a _ (.inl rfl) e
  | met f y =>
    have e : h.get? a = some (PySem.W.methodObj (.ref f) (.ref y)) := x
    show h'.get? a = some (PySem.W.methodObj (.ref f) (.ref y))
    exact k a _ (.inl rfl) e
  | ext φ => obtain ⟨p, ⟨o, e⟩, st⟩ := x; exact ⟨st _ _ p fun o q => k _ _ (.inl rfl) q, ⟨o, k _ _ (.inl rfl) e⟩, st⟩
theorem HOk.lt (x : HOk P w H h) (e : H a = some o) : a < h.objs.size := (x a o e).lt
theorem HOk.fresh (x : HOk P w H h) (e : h.objs.size ≤ a) : H a = none := by
  cases q : H a with
  | none => rfl
  | some u => exact absurd (Nat.lt_of_lt_of_le (x.lt q) e) (Nat.lt_irrefl _)
theorem HOk.kept (x : HOk P w H h) (k : ∀ b u, h.get? b = some u → h'.get? b = some u) : HOk P w H h' := fun a o e =>
  (x a o e).stay (fun b u _ q => k b u q) (fun _ q => q) fun _ _ q => q
theorem HOk.laid (x : HOk P w H h) (k : ∀ b u, h.get? b = some u → h'.get? b = some u) (hp : h.objs.size ≤ a) (new : ObjOk P w (upd H a o) h' a o) : HOk P w (upd H a o) h' := fun b u e => by
  have hn := x.fresh hp
  by_cases hb : b = a
  · subst hb; rw [upd_same] at e; cases e; exact new
  · rw [upd_ne hb] at e
    exact (x b u e).stay (fun c v _ q => k c v q) (fun c q => by rw [upd_ne (ne_of_none q hn)]; exact q) fun c xs q => by rw [upd_ne (ne_of_none q hn)]; exact q
end
noncomputable def Rd (H : Hp) (a : Addr) (u : HO) : Prop := H a = some u ∨ ∃ o, H a = some (.frz o u)
theorem Rd.of {H : Hp} {a : Addr} {u : HO} (h : H a = some u) : Rd H a u := .inl h
theorem Rd.ok {P : Program} {w : World} {H : Hp} {h : Heap} {a : Addr} {u : HO} (r : Rd H a u) (x : HOk P w H h) : ObjOk P w H h a u := by
  rcases r with r | ⟨o, r⟩
  · exact x a u r
  · obtain ⟨_, q⟩ := x a _ r
    exact q
noncomputable def Mut : Option HO → Prop
  | some (.lst _) => True
  | some (.dK _) => True
  | some (.dT _) => True
  | some (.set _ _) => True
  | some (.ins _ _ _) => True
  | some (.ext _) => True
  | _ => False
section
variable {P : Program} {w : World} {H : Hp} {h h' : Heap} {x e : Addr} {o' : HO}
theorem HOk.write (ok : HOk P w H h) (mu : Mut (H x)) (he : e = x ∨ H e = some (.own x)) (k : ∀ b u, b ≠ e → h.get? b = some u → h'.get? b = some u) (heo : ∃ u, h'.get? e = some u)
    (new : ObjOk P w (upd H x o') h' x o') : HOk P w (upd H x o') h' := fun b u q => by
  have nown : ∀ c y, H c = some (.own y) → c ≠ x := fun c y r z => by subst z; rw [r] at mu; exact mu
  have ntup : ∀ c xs, H c = some (.tup xs) → c ≠ x := fun c xs r z => by subst z; rw [r] at mu; exact mu
  by_cases hb : b = x
  · subst hb; rw [upd_same] at q; cases q; exact new
  · rw [upd_ne hb] at q
    by_cases hbe : b = e
    · have q' : H b = some (.own x) := by
        rcases he with z | z
        · exact absurd (hbe.trans z) hb
        · rw [hbe]; exact z
      rw [q] at q'; cases q'
      obtain ⟨v, hv⟩ := heo
      exact ⟨v, by rw [hbe]; exact hv⟩
    · refine (ok b u q).stay (fun c v hc r => k c v ?_ r) (fun c r => by rw [upd_ne (nown c b r)]; exact r) fun c xs r => by rw [upd_ne (ntup c xs r)]; exact r
      rcases hc with rfl | hc
      · exact hbe
      · rintro rfl
        rcases he with z | z
        · exact nown c b hc z
        · rw [hc] at z; cases z; exact hb rfl
end
structure Un (fs ex : List Addr) (H H' : Hp) (h h' : Heap) : Prop where
  keep : ∀ b o, h.get? b = some o → H b = none → b ∉ fs → b ∉ ex → h'.get? b = some o
  slot : ∀ b o, h.get? b = some o → H b = none → b ∈ fs → b ∉ ex → ∃ sl, h'.get? b = some { o with slots := sl }
  free : ∀ b o, h.get? b = some o → H b = none → b ∉ ex → H' b = none
  there : ∀ b o, h.get? b = some o → b ∉ ex → ∃ o', h'.get? b = some o'
  tups : ∀ b xs, H b = some (.tup xs) → H' b = some (.tup xs)
  frzs : ∀ b o u, H b = some (.frz o u) → H' b = some (.frz o u)
  tbls : ∀ b ps, H b = some (.tbl ps) → ∃ more, H' b = some (.tbl (ps ++ more))
section
variable {fs fs' ex ex' : List Addr} {H H1 H2 : Hp} {h h1 h2 h' : Heap} {a x e : Addr} {o : HO}
theorem Un.any (u : Un fs ex H H1 h h1) {b : Addr} {ob : Obj} (q : h.get? b = some ob) (n : H b = none) (hx : b ∉ ex) : ∃ sl, h1.get? b = some { ob with slots := sl } := by
  by_cases hb : b ∈ fs
  · exact u.slot b ob q n hb hx
  · exact ⟨ob.slots, u.keep b ob q n hb hx⟩
theorem Un.trans (a : Un fs ex H H1 h h1) (b : Un fs ex H1 H2 h1 h2) : Un fs ex H H2 h h2 where
  keep := fun c ob q n hc hx => b.keep c ob (a.keep c ob q n hc hx) (a.free c ob q n hx) hc hx
  slot := fun c ob q n hc hx => by
    obtain ⟨sl, e1⟩ := a.slot c ob q n hc hx
    obtain ⟨sl', e2⟩ := b.slot c _ e1 (a.free c ob q n hx) hc hx
    exact ⟨sl', e2⟩
  free := fun c ob q n hx => by
    obtain ⟨o', e1⟩ := a.there c ob q hx
    exact b.free c o' e1 (a.free c ob q n hx) hx
  there := fun c ob q hx => by
    obtain ⟨o', e1⟩ := a.there c ob q hx
    exact b.there c o' e1 hx
  tups := fun c xs q => b.tups c xs (a.tups c xs q)
  frzs := fun c ob xs q => b.frzs c ob xs (a.frzs c ob xs q)
  tbls := fun c ps q => by
    obtain ⟨m1, e1⟩ := a.tbls c ps q
    obtain ⟨m2, e2⟩ := b.tbls c _ e1
    exact ⟨m1 ++ m2, by rw [e2, Array.append_assoc]⟩
theorem Un.kept (k : ∀ b u, h.get? b = some u → h'.get? b = some u) : Un fs ex H H h h' :=
  ⟨fun b ob q _ _ _ => k b ob q, fun b ob q _ _ _ => ⟨ob.slots, k b ob q⟩, fun _ _ _ n _ => n, fun b ob q _ => ⟨ob, k b ob q⟩, fun _ _ q => q, fun _ _ _ q => q, fun _ ps q => ⟨#[], by rw [q]; simp⟩⟩
theorem Un.refl : Un fs ex H H h h := Un.kept fun _ _ q => q
theorem Un.laid (k : ∀ b u, h.get? b = some u → h'.get? b = some u) (hp : h.objs.size ≤ a) (hn : H a = none) : Un fs ex H (upd H a o) h h' where
  keep := fun b u q _ _ _ => k b u q
  slot := fun b u q _ _ _ => ⟨u.slots, k b u q⟩
  free := fun b u q n _ => by rw [upd_ne (Nat.ne_of_lt (Nat.lt_of_lt_of_le (Heap.lt_size q) hp))]; exact n
  there := fun b u q _ => ⟨u, k b u q⟩
  tups := fun b xs q => by rw [upd_ne (ne_of_none q hn)]; exact q
  frzs := fun b u xs q => by rw [upd_ne (ne_of_none q hn)]; exact q
  tbls := fun b ps q => ⟨#[], by rw [upd_ne (ne_of_none q hn), q]; simp⟩
theorem Un.write (mu : Mut (H x)) (he : e = x ∨ H e = some (.own x)) (k : ∀ b u, b ≠ e → h.get? b = some u → h'.get? b = some u) (heo : ∃ u, h'.get? e = some u) : Un fs ex H (upd H x o) h h' := by
  have hx : ∀ b, H b = none → b ≠ x := fun b n z => by subst z; rw [n] at mu; exact mu
  have hb : ∀ b, H b = none → b ≠ e := fun b n z => by
    subst z
    rcases he with r | r
    · exact hx b n r
    · rw [n] at r; cases r
  have hm : ∀ b u, H b = some u → ¬ Mut (some u) → b ≠ x := fun b u q nm z => by subst z; rw [q] at mu; exact nm mu
  refine ⟨fun b u q n _ _ => k b u (hb b n) q, fun b u q n _ _ => ⟨u.slots, k b u (hb b n) q⟩, fun b u q n _ => by rw [upd_ne (hx b n)]; exact n, fun b u q _ => ?_,
    fun b xs q => by rw [upd_ne (hm b _ q fun z => z)]; exact q, fun b u xs q => by rw [upd_ne (hm b _ q fun z => z)]; exact q, fun b ps q => ⟨#[], by rw [upd_ne (hm b _ q fun z => z), q]; simp⟩⟩
  by_cases hbe : b = e
  · subst hbe; exact heo
  · exact ⟨u, k b u hbe q⟩
end
noncomputable def trk (h : Heap) (H : Hp) : List Addr := (List.range h.objs.size).filter fun a => (H a).isSome
noncomputable def hidT (h : Heap) (H : Hp) : Heap := PySem.W.hideAll h (trk h H)
theorem hidT_size (h : Heap) (H : Hp) : (hidT h H).objs.size = h.objs.size := PySem.W.hideAll_size _ _
theorem hidT_get {h : Heap} {H : Hp} {b : Addr} {o : Obj} (e : h.get? b = some o) (n : H b = none) : (hidT h H).get? b = some o :=
  PySem.W.hideAll_get _ e fun hm => by
    have q : (H b).isSome = true := (List.mem_filter.mp hm).2
    rw [n] at q; simp at q
theorem of_hidT {h : Heap} {H : Hp} {b : Addr} {o : Obj} (e : (hidT h H).get? b = some o) : h.get? b = some o ∧ H b = none := by
  have e' : h.get? b = some o := PySem.W.of_hideAll (trk h H) e
  refine ⟨e', ?_⟩
  cases q : H b with
  | none => rfl
  | some x =>
    have hm : b ∈ trk h H := List.mem_filter.mpr ⟨List.mem_range.mpr (Heap.lt_size e'), by simp [q]⟩
    have z : (hidT h H).get? b = none := PySem.W.hideAll_none (trk h H) hm
    rw [z] at e; cases e
noncomputable def allNews (g h : Heap) (L : Addr) : List (Addr × Obj) := (List.range h.objs.size).filterMap fun a => if a = L ∨ (g.get? a).isSome = true then none else (h.get? a).map fun o => (a, o)
noncomputable def rest (g h : Heap) (L d : Addr) : List (Addr × Obj) := (allNews g h L).filter fun p => decide (p.1 ≠ d)
end L2
namespace L2
open PySem PySem.Spec PyProof.Rows
structure Mod (K : PySem.W.Frag) (mg : Str → Option Value) (base : Heap) : Prop where
  kin : K.In base
  glob : base.Ns mainGlobals mg
  blt : ∃ mb, base.Ns builtinsNs mb ∧ ∀ x : Str, x ≠ "__name__" → mb x = bootBuiltins x
  nolimit : base.NoLimit
structure Cx where
  prog : Program
  w : World
  K : PySem.W.Frag
  mg : Str → Option Value
  base : Heap
  A : Around
  N : List Str
  s₀ : Shared
  H₀ : Hp
  env : Env
  outer : List Env
  stack : List Env
  ex : List Addr
  fn : Str → Bool
  calm : Bool
  pn : List (Addr × Obj)
  xe : Value → Shared → Prop
noncomputable def frs (l : List Env) : List Addr := l.filterMap (·.frame)
noncomputable abbrev Cx.fs (X : Cx) : List Addr := frs X.outer
noncomputable def Vis (sc : Scope) (x : Str) : Prop := sc.names.lookup x = some .local ∨ sc.names.lookup x = some .cell ∨ sc.names.lookup x = some .free
noncomputable def Loc (sc : Scope) (x : Str) : Prop := sc.names.lookup x = some .local ∨ sc.names.lookup x = some .cell
noncomputable def Look (env : Env) (h : Heap) (m : Str → Option Value) (x : Str) (u : Value) : Prop :=
  (env.kindOf x = some .local ∧ m x = some u) ∨ ((env.kindOf x = some .cell ∨ env.kindOf x = some .free) ∧ ∃ c, env.cells.lookup x = some c ∧ h.IsCell c (some u))
structure Cx.Ok (X : Cx) : Prop where
  mod : Mod X.K X.mg X.base
  kind : X.env.scope.kind = .function
  glob : X.env.globals = mainGlobals
  blt : X.env.builtins = builtinsNs
  above : X.s₀.heap.objs.size ≤ X.env.locals
  inj : ∀ x y c, X.env.cells.lookup x = some c → X.env.cells.lookup y = some c → x = y
  has : ∀ x, (X.env.kindOf x = some .cell ∨ X.env.kindOf x = some .free) → ∃ c, X.env.cells.lookup x = some c
  cab : ∀ x c, X.fn x = true → X.env.cells.lookup x = some c → X.s₀.heap.objs.size ≤ c
  hd : X.calm = true → X.A.handled = none
  frames : X.A.frames = some X.stack
  stk : X.stack = X.outer ∨ (X.stack = X.env :: X.outer ∧ X.env.frame = some X.env.locals)
  exf : ∀ b ∈ X.ex, b ≠ X.env.locals ∧ ∀ x c, X.env.cells.lookup x = some c → c ≠ b
  bs : ∀ b o, X.base.get? b = some o → X.s₀.heap.get? b = some o ∧ X.H₀ b = none
  bsz : X.base.objs.size ≤ X.s₀.heap.objs.size
  noex : ∀ b o, X.base.get? b = some o → b ∉ X.ex
  exfs : ∀ b ∈ X.ex, b ∉ X.fs
  funs : X.s₀.heap.FunFrames X.base X.outer
  frf : ∀ b ∈ X.fs, X.H₀ b = none
structure Inv (X : Cx) (pins : List (Addr × Obj)) (σ : List (Option V)) (H : Hp) (s : Shared) : Prop where
  ok : X.Ok
  os : s.os = X.s₀.os
  bare : AllBare s.gens
  base : Un X.fs X.ex X.H₀ H X.s₀.heap s.heap
  loc : ∃ m, s.heap.Ns X.env.locals m ∧ ∀ (i : Nat) (x : Str) (v : V), X.N[i]? = some x → σ[i]? = some (some v) → Vis X.env.scope x → ∃ u, RelV v u ∧ Look X.env s.heap m x u
  cell : ∀ x c, X.env.cells.lookup x = some c → ∃ v, s.heap.IsCell c v
  free : H X.env.locals = none
  freeC : ∀ x c, X.env.cells.lookup x = some c → H c = none
  pin : ∀ p ∈ X.pn ++ pins, s.heap.get? p.1 = some p.2 ∧ H p.1 = none ∧ p.1 ≠ X.env.locals ∧ p.1 ∉ X.fs ∧ ∀ v, p.2.data ≠ .cell v
  hok : HOk X.prog X.w H s.heap
  len : σ.length = X.N.length
section
variable {X : Cx} {pins : List (Addr × Obj)} {σ : List (Option V)} {H H' : Hp} {s : Shared} {h' : Heap}
theorem Cx.Ok.nofr (ok : X.Ok) {b : Addr} {o : Obj} (e : X.base.get? b = some o) : b ∉ X.fs := fun hb => by
  have := (ok.funs.mem hb).1
  rw [e] at this; cases this
theorem Inv.bs (I : Inv X pins σ H s) : ∀ b o, X.base.get? b = some o → s.heap.get? b = some o ∧ H b = none := fun b o e =>
  ⟨I.base.keep b o (I.ok.bs b o e).1 (I.ok.bs b o e).2 (I.ok.nofr e) (I.ok.noex b o e), I.base.free b o (I.ok.bs b o e).1 (I.ok.bs b o e).2 (I.ok.noex b o e)⟩
theorem Inv.bk (I : Inv X pins σ H s) : ∀ b o, X.base.get? b = some o → s.heap.get? b = some o := fun b o e => (I.bs b o e).1
theorem Inv.mod (I : Inv X pins σ H s) : Mod X.K X.mg X.base := I.ok.mod
theorem Inv.kIn (I : Inv X pins σ H s) : X.K.In s.heap := I.ok.mod.kin.keeps I.bk
theorem Inv.nolimit (I : Inv X pins σ H s) : s.heap.NoLimit := I.ok.mod.nolimit.keeps I.bk
theorem Inv.fr (I : Inv X pins σ H s) : ∃ m, Fr X.base X.env.locals s.heap m :=
  let ⟨m, hn, _⟩ := I.loc
  ⟨m, hn, I.bk, Nat.le_trans I.ok.bsz I.ok.above⟩
theorem Inv.lt (I : Inv X pins σ H s) : X.env.locals < s.heap.objs.size := let ⟨_, hn, _⟩ := I.loc; hn.lt
theorem Inv.sz (I : Inv X pins σ H s) : X.s₀.heap.objs.size ≤ s.heap.objs.size := Nat.le_trans I.ok.above (Nat.le_of_lt I.lt)
theorem Inv.nofs (I : Inv X pins σ H s) {a : Addr} (h : s.heap.objs.size ≤ a) : a ∉ X.fs := fun hb => by
  obtain ⟨_, o, ho, _⟩ := I.ok.funs.mem hb
  exact absurd (Nat.lt_of_lt_of_le (Heap.lt_size ho) (Nat.le_trans I.sz h)) (Nat.lt_irrefl _)
theorem Inv.cne (I : Inv X pins σ H s) : ∀ x c, X.env.cells.lookup x = some c → c ≠ X.env.locals := fun x c e z => by
  obtain ⟨v, o, ho, hd⟩ := I.cell x c e
  obtain ⟨m, ⟨o', es, ep, ho', hd', _⟩, _⟩ := I.loc
  rw [z, ho'] at ho; cases ho; rw [hd'] at hd; cases hd
theorem Inv.funs (I : Inv X pins σ H s) : s.heap.FunFrames X.base X.outer := by
  have all : ∀ (l : List Env), (∀ b ∈ frs l, b ∈ X.fs) → X.s₀.heap.FunFrames X.base l → s.heap.FunFrames X.base l := by
    intro l
    induction l with
    | nil => intro _ _; trivial
    | cons env r ih =>
      intro hs hl
      obtain ⟨hk, ⟨L, o, hf, hn, ho, hd⟩, hr⟩ := hl
      have hL : L ∈ X.fs := hs L (by unfold frs; rw [List.filterMap_cons, hf]; exact List.mem_cons_self)
      obtain ⟨sl, e⟩ := I.base.slot L o ho (I.ok.frf L hL) hL fun z => I.ok.exfs L z hL
      exact ⟨hk, ⟨L, _, hf, hn, e, hd⟩, ih (fun b hb => hs b (by unfold frs; rw [List.filterMap_cons, hf]; exact List.mem_cons_of_mem _ hb)) hr⟩
  exact all X.outer (fun _ hb => hb) I.ok.funs
theorem Inv.stack (I : Inv X pins σ H s) : s.heap.FunFrames X.base X.stack := by
  rcases I.ok.stk with e | ⟨e, hf⟩
  · rw [e]; exact I.funs
  · rw [e]
    obtain ⟨m, hn, _⟩ := I.loc
    refine .cons (by rw [I.ok.kind]; decide) hf hn ?_ I.funs
    exact Heap.get?_none_of_le (Nat.le_trans I.ok.bsz I.ok.above)
theorem Inv.stkSub (I : Inv X pins σ H s) : ∀ b ∈ frs X.stack, b ∈ X.env.locals :: X.fs := fun b hb => by
  rcases I.ok.stk with e | ⟨e, hf⟩
  · rw [e] at hb; exact List.mem_cons_of_mem _ hb
  · rw [e] at hb
    unfold frs at hb
    rw [List.filterMap_cons, hf] at hb
    exact hb
theorem Inv.stkFree (I : Inv X pins σ H s) : ∀ b ∈ frs X.stack, H b = none := fun b hb => by
  rcases List.mem_cons.mp (I.stkSub b hb) with e | hb
  · rw [e]; exact I.free
  · obtain ⟨_, o, ho, _⟩ := I.ok.funs.mem hb
    exact I.base.free b o ho (I.ok.frf b hb) fun z => I.ok.exfs b z hb
theorem Inv.step {g' : Array GenState} {t' : Nat} {d' : Drawn} {ch : List Addr} (I : Inv X pins σ H s)
    (hch : ∀ b ∈ ch, (b ∈ X.ex ∨ X.s₀.heap.objs.size ≤ b) ∧ b ≠ X.env.locals ∧ (∀ x c, X.env.cells.lookup x = some c → c ≠ b) ∧ ∀ p ∈ X.pn ++ pins, p.1 ≠ b)
    (keep : ∀ b o, b ≠ X.env.locals → b ∉ X.fs → b ∉ ch → s.heap.get? b = some o → H b = none → h'.get? b = some o)
    (slot : ∀ b o, b ≠ X.env.locals → b ∈ X.fs → b ∉ ch → s.heap.get? b = some o → H b = none → ∃ sl, h'.get? b = some { o with slots := sl }) (free : ∀ b o, b ∉ ch → s.heap.get? b = some o → H b = none → H' b = none)
    (there : ∀ b o, b ∉ ch → s.heap.get? b = some o → ∃ o', h'.get? b = some o')
    (tups : ∀ b xs, H b = some (.tup xs) → H' b = some (.tup xs)) (frzs : ∀ b o u, H b = some (.frz o u) → H' b = some (.frz o u)) (tbls : ∀ b ps, H b = some (.tbl ps) → ∃ more, H' b = some (.tbl (ps ++ more)))
    (ns : ∀ m, s.heap.Ns X.env.locals m → h'.Ns X.env.locals m) (hok : HOk X.prog X.w H' h') (hg : AllBare g') :
    Inv X pins σ H' { s with heap := h', gens := g', drawn := d', toks := t' } := by
  have neL : ∀ b o, X.s₀.heap.get? b = some o → b ≠ X.env.locals := fun b o e => Nat.ne_of_lt (Nat.lt_of_lt_of_le (Heap.lt_size e) I.ok.above)
  have neC : ∀ b o, X.s₀.heap.get? b = some o → b ∉ X.ex → b ∉ ch := fun b o e hx hb => by
    rcases (hch b hb).1 with z | z
    · exact hx z
    · exact absurd (Nat.lt_of_lt_of_le (Heap.lt_size e) z) (Nat.lt_irrefl _)
  have cellK : ∀ x c, X.env.cells.lookup x = some c → ∀ v, s.heap.IsCell c v → h'.IsCell c v := fun x c e v ⟨o, ho, hd⟩ => by
    have nch : c ∉ ch := fun z => (hch c z).2.2.1 x c e rfl
    by_cases hc : c ∈ X.fs
    · obtain ⟨sl, q⟩ := slot c o (I.cne x c e) hc nch ho (I.freeC x c e)
      exact ⟨_, q, hd⟩
    · exact ⟨o, keep c o (I.cne x c e) hc nch ho (I.freeC x c e), hd⟩
  refine ⟨I.ok, I.os, hg, ⟨fun b o e n hb hx => ?_, fun b o e n hb hx => ?_, fun b o e n hx => ?_, fun b o e hx => ?_, fun b xs e => tups b xs (I.base.tups b xs e), fun b o xs e => frzs b o xs (I.base.frzs b o xs e), fun b ps e => ?_⟩, ?_, fun x c e => ?_, ?_, fun x c e => ?_, fun p hp => ?_, hok, I.len⟩
  · exact keep b o (neL b o e) hb (neC b o e hx) (I.base.keep b o e n hb hx) (I.base.free b o e n hx)
  · obtain ⟨sl, e1⟩ := I.base.slot b o e n hb hx
    obtain ⟨sl', e2⟩ := slot b _ (neL b o e) hb (neC b o e hx) e1 (I.base.free b o e n hx)
    exact ⟨sl', e2⟩
  · obtain ⟨o', e1⟩ := I.base.there b o e hx
    exact free b o' (neC b o e hx) e1 (I.base.free b o e n hx)
  · obtain ⟨o', e1⟩ := I.base.there b o e hx
    exact there b o' (neC b o e hx) e1
  · obtain ⟨m1, e1⟩ := I.base.tbls b ps e
    obtain ⟨m2, e2⟩ := tbls b _ e1
    exact ⟨m1 ++ m2, by rw [e2, Array.append_assoc]⟩
  · obtain ⟨m, hn, hl⟩ := I.loc
    refine ⟨m, ns m hn, fun i x v e1 e2 e3 => ?_⟩
    obtain ⟨u, r, l⟩ := hl i x v e1 e2 e3
    refine ⟨u, r, ?_⟩
    rcases l with l | ⟨k, c, e, z⟩
    · exact .inl l
    · exact .inr ⟨k, c, e, cellK x c e _ z⟩
  · obtain ⟨v, z⟩ := I.cell x c e
    exact ⟨v, cellK x c e v z⟩
  · obtain ⟨m, ⟨o, _, _, ho, _⟩, _⟩ := I.loc
    exact free _ o (fun z => (hch _ z).2.1 rfl) ho I.free
  · obtain ⟨v, o, ho, hd⟩ := I.cell x c e
    exact free c o (fun z => (hch c z).2.2.1 x c e rfl) ho (I.freeC x c e)
  · obtain ⟨e, n, ne, nf, d⟩ := I.pin p hp
    have nch : p.1 ∉ ch := fun z => (hch p.1 z).2.2.2 p hp rfl
    exact ⟨keep p.1 p.2 ne nf nch e n, free p.1 p.2 nch e n, ne, nf, d⟩
theorem Inv.un {t' : Nat} (I : Inv X pins σ H s) (u : Un X.fs [] H H' s.heap h') (hok : HOk X.prog X.w H' h') : Inv X pins σ H' { s with heap := h', toks := t' } := by
  obtain ⟨m, ⟨o, es, ep, ho, r⟩, _⟩ := id I.loc
  obtain ⟨sl, hL⟩ := u.any ho I.free (by simp)
  exact I.step (g' := s.gens) (d' := s.drawn) (ch := []) (fun _ z => nomatch z) (fun b o _ hb _ e n => u.keep b o e n hb (by simp)) (fun b o _ hb _ e n => u.slot b o e n hb (by simp)) (fun b o _ e n => u.free b o e n (by simp)) (fun b o _ e => u.there b o e (by simp)) u.tups u.frzs u.tbls (fun m' hm => by
    obtain ⟨o', es', ep', ho', r'⟩ := hm
    rw [ho] at ho'; cases ho'
    exact ⟨_, es', ep', hL, r'⟩) hok I.bare
theorem Inv.call {g' : Array GenState} {t' : Nat} {d' : Drawn} {ch : List Addr} (I : Inv X pins σ H s) (u : Un (frs X.stack) ch H H' s.heap h') (hok : HOk X.prog X.w H' h') (hg : AllBare g')
    (hch : ∀ b ∈ ch, (b ∈ X.ex ∨ X.s₀.heap.objs.size ≤ b) ∧ b ≠ X.env.locals ∧ (∀ x c, X.env.cells.lookup x = some c → c ≠ b) ∧ ∀ p ∈ X.pn ++ pins, p.1 ≠ b) :
    Inv X pins σ H' { s with heap := h', gens := g', drawn := d', toks := t' } := by
  obtain ⟨m, ⟨o, es, ep, ho, r⟩, _⟩ := id I.loc
  obtain ⟨sl, hL⟩ := u.any ho I.free fun z => (hch _ z).2.1 rfl
  exact I.step (ch := ch) hch (fun b o hL hb hc e n => u.keep b o e n (fun z => (List.mem_cons.mp (I.stkSub b z)).elim hL hb) hc) (fun b o _ _ hc e n => u.any e n hc) (fun b o hc e n => u.free b o e n hc) (fun b o hc e => u.there b o e hc) u.tups u.frzs u.tbls (fun m' hm => by
    obtain ⟨o', es', ep', ho', r'⟩ := hm
    rw [ho] at ho'; cases ho'
    exact ⟨_, es', ep', hL, r'⟩) hok hg
theorem Inv.turned {t' : Nat} {it : Addr} (I : Inv X pins σ H s) (k : ∀ b o, b ≠ it → s.heap.get? b = some o → h'.get? b = some o) (hn : H it = none) (hL : it ≠ X.env.locals)
    (h1 : it ∈ X.ex ∨ X.s₀.heap.objs.size ≤ it) (h2 : ∀ x c, X.env.cells.lookup x = some c → c ≠ it) (h3 : ∀ p ∈ X.pn ++ pins, p.1 ≠ it) : Inv X pins σ H { s with heap := h', toks := t' } := by
  have nit : ∀ b u, H b = some u → b ≠ it := fun b u e z => by rw [z, hn] at e; cases e
  refine I.step (g' := s.gens) (d' := s.drawn) (ch := [it]) (fun b hb => ?_) (fun b o _ _ hc e _ => k b o (fun z => hc (by simp [z])) e) (fun b o _ _ hc e _ => ⟨o.slots, k b o (fun z => hc (by simp [z])) e⟩) (fun _ _ _ _ n => n)
    (fun b o hc e => ⟨o, k b o (fun z => hc (by simp [z])) e⟩) (fun _ _ e => e) (fun _ _ _ e => e) (fun b ps e => ⟨#[], by rw [e]; simp⟩) (fun m hm => ?_) (fun b u e => ?_) I.bare
  · have e : b = it := by simpa using hb
    subst e
    exact ⟨h1, hL, h2, h3⟩
  · obtain ⟨o, es, ep, ho, r⟩ := hm
    exact ⟨o, es, ep, k _ o (Ne.symm hL) ho, r⟩
  · refine (I.hok b u e).stay (fun c v hc q => k c v ?_ q) (fun _ q => q) fun _ _ q => q
    rcases hc with z | z
    · rw [z]; exact nit b u e
    · exact nit c _ z
theorem Inv.tok (I : Inv X pins σ H s) (t : Nat) : Inv X pins σ H { s with toks := t } := I.un (h' := s.heap) (t' := t) Un.refl I.hok
theorem Inv.kept {t' : Nat} (I : Inv X pins σ H s) (k : ∀ b u, s.heap.get? b = some u → h'.get? b = some u) : Inv X pins σ H { s with heap := h', toks := t' } := I.un (Un.kept k) (I.hok.kept k)
theorem Inv.laid {a : Addr} {o : HO} {t' : Nat} (I : Inv X pins σ H s) (k : ∀ b u, s.heap.get? b = some u → h'.get? b = some u) (hp : s.heap.objs.size ≤ a) (new : ObjOk X.prog X.w (upd H a o) h' a o) :
    Inv X pins σ (upd H a o) { s with heap := h', toks := t' } := I.un (Un.laid k hp (I.hok.fresh hp)) (I.hok.laid k hp new)
theorem Inv.write {x e : Addr} {o : HO} {t' : Nat} (I : Inv X pins σ H s) (mu : Mut (H x)) (he : e = x ∨ H e = some (.own x)) (k : ∀ b u, b ≠ e → s.heap.get? b = some u → h'.get? b = some u) (heo : ∃ u, h'.get? e = some u)
    (new : ObjOk X.prog X.w (upd H x o) h' x o) : Inv X pins σ (upd H x o) { s with heap := h', toks := t' } := I.un (Un.write mu he k heo) (I.hok.write mu he k heo new)
theorem Inv.pins_of {pins' : List (Addr × Obj)} (I : Inv X pins σ H s) (h : ∀ p ∈ pins', s.heap.get? p.1 = some p.2 ∧ H p.1 = none ∧ p.1 ≠ X.env.locals ∧ p.1 ∉ X.fs ∧ ∀ v, p.2.data ≠ .cell v) : Inv X pins' σ H s :=
  ⟨I.ok, I.os, I.bare, I.base, I.loc, I.cell, I.free, I.freeC, fun p hp => (List.mem_append.mp hp).elim (fun z => I.pin p (List.mem_append_left _ z)) (h p), I.hok, I.len⟩
theorem nodup_ix {N : List Str} (hN : N.Nodup) {i j : Nat} {x : Str} (a : N[i]? = some x) (b : N[j]? = some x) : i = j := by
  obtain ⟨h1, e1⟩ := List.getElem?_eq_some_iff.mp a
  obtain ⟨h2, e2⟩ := List.getElem?_eq_some_iff.mp b
  exact (List.getElem_inj hN).mp (e1.trans e2.symm)
theorem store_ok2 {M : Model} {A : Around} {E : Value → Shared → Prop} {i : Nat} {x : Str} {v : V} {u : Value} {Q : Unit → Shared → Prop} (I : Inv X pins σ H s) (hN : X.N.Nodup) (hi : X.N[i]? = some x) (hx : Loc X.env.scope x) (r : RelV v u)
    (h : ∀ s', Inv X pins (σ.set i (some v)) H s' → (∃ a, Heap.SameBut a s.heap s'.heap ∧ (a = X.env.locals ∨ X.env.cells.lookup x = some a)) → Q () s') (hf : X.fn x = true ∨ X.env.scope.names.lookup x = some .local := by first | exact .inl rfl | exact .inr rfl | assumption) : wpAny M A (storeName X.env x u) Q E s := by
  obtain ⟨m, hn, hl⟩ := id I.loc
  have hcls : (X.env.scope.kind == .class || (X.env.scope.kind == .module && X.env.locals != X.env.globals)) = false := by rw [I.ok.kind]; rfl
  have hiσ : i < σ.length := by rw [I.len]; exact (List.getElem?_eq_some_iff.mp hi).1
  have cne := I.cne
  have tracked : ∀ {a : Addr} {h' : Heap}, (∃ o, s.heap.get? a = some o ∧ H a = none) → Heap.SameBut a s.heap h' → HOk X.prog X.w H h' := fun {a h'} ha hs b ob e => by
    obtain ⟨_, _, hfree⟩ := ha
    refine (I.hok b ob e).stay (fun c w' hc q => (hs.2 c ?_).trans q) (fun _ q => q) fun _ _ q => q
    rintro rfl
    rcases hc with rfl | hc
    · rw [hfree] at e; cases e
    · rw [hfree] at hc; cases hc
  rcases hx with hk | hk
  · refine wpAny_storeName_local hk hn (fun h' hn' hs => ?_) hcls
    obtain ⟨oL, _, _, hoL, _⟩ := id hn
    refine h _ ⟨I.ok, I.os, I.bare, ⟨fun b o e n hb hx => ?_, fun b o e n hb hx => ?_, I.base.free, fun b o e hx => ?_, I.base.tups, I.base.frzs, I.base.tbls⟩, ⟨_, hn', fun j y v' e1 e2 e3 => ?_⟩, fun y c e => ?_, I.free, I.freeC, fun p hp => ?_, tracked ⟨oL, hoL, I.free⟩ hs, by simpa using I.len⟩ ⟨_, hs, .inl rfl⟩
    · exact (hs.2 b (Nat.ne_of_lt (Nat.lt_of_lt_of_le (Heap.lt_size e) I.ok.above))).trans (I.base.keep b o e n hb hx)
    · obtain ⟨sl, e1⟩ := I.base.slot b o e n hb hx
      exact ⟨sl, (hs.2 b (Nat.ne_of_lt (Nat.lt_of_lt_of_le (Heap.lt_size e) I.ok.above))).trans e1⟩
    · obtain ⟨o', e1⟩ := I.base.there b o e hx
      exact ⟨o', (hs.2 b (Nat.ne_of_lt (Nat.lt_of_lt_of_le (Heap.lt_size e) I.ok.above))).trans e1⟩
    · by_cases hj : j = i
      · subst hj
        rw [hi] at e1; cases e1
        rw [List.getElem?_set_self hiσ] at e2
        cases e2
        exact ⟨u, r, .inl ⟨hk, by simp⟩⟩
      · rw [List.getElem?_set_ne (Ne.symm hj)] at e2
        obtain ⟨u', r', q⟩ := hl j y v' e1 e2 e3
        refine ⟨u', r', ?_⟩
        rcases q with ⟨k, e⟩ | ⟨k, c, e, z⟩
        · refine .inl ⟨k, ?_⟩
          have : y ≠ x := fun e => hj (nodup_ix hN e1 (e ▸ hi))
          simp [this, e]
        · exact .inr ⟨k, c, e, z.sameBut hs (cne y c e)⟩
    · obtain ⟨w', z⟩ := I.cell y c e
      exact ⟨w', z.sameBut hs (cne y c e)⟩
    · obtain ⟨e, n, ne, nf, d⟩ := I.pin p hp
      exact ⟨(hs.2 p.1 ne).trans e, n, ne, nf, d⟩
  · have hfn : X.fn x = true := by
      rcases hf with z | z
      · exact z
      · rw [z] at hk; cases hk
    obtain ⟨c, hc⟩ := I.ok.has x (.inl hk)
    obtain ⟨w', z⟩ := I.cell x c hc
    refine wpAny_storeName_cell I.ok.kind hk hc z (fun h' hc' hs => ?_)
    obtain ⟨oc, hoc, hocd⟩ := id z
    refine h { s with heap := h' } ⟨I.ok, I.os, I.bare, ⟨fun b o e n hb hx => ?_, fun b o e n hb hx => ?_, I.base.free, fun b o e hx => ?_, I.base.tups, I.base.frzs, I.base.tbls⟩, ⟨m, hn.sameBut hs (Ne.symm (cne x c hc)), fun j y v' e1 e2 e3 => ?_⟩, fun y c' e => ?_, I.free, I.freeC, fun p hp => ?_, tracked ⟨oc, hoc, I.freeC x c hc⟩ hs, by simpa using I.len⟩ ⟨c, hs, .inr hc⟩
    · exact (hs.2 b (Nat.ne_of_lt (Nat.lt_of_lt_of_le (Heap.lt_size e) (I.ok.cab x c hfn hc)))).trans (I.base.keep b o e n hb hx)
    · obtain ⟨sl, e1⟩ := I.base.slot b o e n hb hx
      exact ⟨sl, (hs.2 b (Nat.ne_of_lt (Nat.lt_of_lt_of_le (Heap.lt_size e) (I.ok.cab x c hfn hc)))).trans e1⟩
    · obtain ⟨o', e1⟩ := I.base.there b o e hx
      exact ⟨o', (hs.2 b (Nat.ne_of_lt (Nat.lt_of_lt_of_le (Heap.lt_size e) (I.ok.cab x c hfn hc)))).trans e1⟩
    · by_cases hj : j = i
      · subst hj
        rw [hi] at e1; cases e1
        rw [List.getElem?_set_self hiσ] at e2
        cases e2
        exact ⟨u, r, .inr ⟨.inl hk, c, hc, hc'⟩⟩
      · rw [List.getElem?_set_ne (Ne.symm hj)] at e2
        obtain ⟨u', r', q⟩ := hl j y v' e1 e2 e3
        refine ⟨u', r', ?_⟩
        rcases q with q | ⟨k, c', e, z'⟩
        · exact .inl q
        · refine .inr ⟨k, c', e, z'.sameBut hs ?_⟩
          rintro rfl
          exact hj (nodup_ix hN e1 (I.ok.inj _ _ _ e hc ▸ hi))
    · by_cases hcc : c' = c
      · subst hcc; exact ⟨_, hc'⟩
      · obtain ⟨w2, z2⟩ := I.cell y c' e
        exact ⟨w2, z2.sameBut hs hcc⟩
    · obtain ⟨e, n, ne, nf, d⟩ := I.pin p hp
      refine ⟨(hs.2 p.1 ?_).trans e, n, ne, nf, d⟩
      intro q
      rw [q, hoc] at e
      have q' : oc = p.2 := Option.some.inj e
      exact d w' (by rw [← q']; exact hocd)
theorem store_ok {M : Model} {A : Around} {E : Value → Shared → Prop} {i : Nat} {x : Str} {v : V} {u : Value} {Q : Unit → Shared → Prop} (I : Inv X pins σ H s) (hN : X.N.Nodup) (hi : X.N[i]? = some x) (hx : Loc X.env.scope x) (r : RelV v u)
    (h : ∀ s', Inv X pins (σ.set i (some v)) H s' → Q () s') (hf : X.fn x = true ∨ X.env.scope.names.lookup x = some .local := by first | exact .inl rfl | exact .inr rfl | assumption) : wpAny M A (storeName X.env x u) Q E s :=
  store_ok2 I hN hi hx r (fun s' I' _ => h s' I') hf
theorem Inv.call' {s' : Shared} {ch : List Addr} (I : Inv X pins σ H s) (ho : s'.os = s.os) (u : Un (frs X.stack) ch H H' s.heap s'.heap) (hok : HOk X.prog X.w H' s'.heap) (hg : AllBare s'.gens)
    (hch : ∀ b ∈ ch, (b ∈ X.ex ∨ X.s₀.heap.objs.size ≤ b) ∧ b ≠ X.env.locals ∧ (∀ x c, X.env.cells.lookup x = some c → c ≠ b) ∧ ∀ p ∈ X.pn ++ pins, p.1 ≠ b) : Inv X pins σ H' s' := by
  obtain ⟨h', g', d', t', o'⟩ := s'
  have e : o' = s.os := ho
  subst e
  exact I.call (g' := g') (t' := t') (d' := d') u hok hg hch
end
noncomputable abbrev XK := Value → Option Addr → Hp → Prop
noncomputable abbrev St := List (Option V)
noncomputable abbrev VK := V → Hp → Prop
noncomputable abbrev TE := St → Hp → VK → Prop
noncomputable abbrev TT := St → Hp → (Bool → Hp → Prop) → Prop
noncomputable abbrev TA := St → Hp → (List V → Hp → Prop) → Prop
structure Ends where
  nx : St → Hp → Prop
  rt : VK
  bk : St → Hp → Prop := fun _ _ => False
  ct : St → Hp → Prop := fun _ _ => False
noncomputable abbrev TS := Ends → St → Hp → Prop
noncomputable def EP (X : Cx) (pins : List (Addr × Obj)) (σ : St) (Q : VK) (u : Value) (s' : Shared) : Prop := ∃ v H', Inv X pins σ H' s' ∧ RelV v u ∧ Q v H'
noncomputable def TP (X : Cx) (pins : List (Addr × Obj)) (σ : St) (Q : Bool → Hp → Prop) (b : Bool) (s' : Shared) : Prop := ∃ H', Inv X pins σ H' s' ∧ Q b H'
noncomputable def AP (X : Cx) (pins : List (Addr × Obj)) (σ : St) (Q : List V → Hp → Prop) (us : List Value) (s' : Shared) : Prop := ∃ vs H', Inv X pins σ H' s' ∧ Vals vs us ∧ Q vs H'
noncomputable def SP (X : Cx) (pins : List (Addr × Obj)) (D : Ends) (f : Flow) (s' : Shared) : Prop :=
  match f with
  | .next => ∃ σ' H', Inv X pins σ' H' s' ∧ D.nx σ' H'
  | .brk => ∃ σ' H', Inv X pins σ' H' s' ∧ D.bk σ' H'
  | .cont => ∃ σ' H', Inv X pins σ' H' s' ∧ D.ct σ' H'
  | .ret u => ∃ v σ' H', Inv X pins σ' H' s' ∧ RelV v u ∧ D.rt v H'
noncomputable def PE (X : Cx) (e : Expr) (t : TE) : Prop :=
  ∀ (pins : List (Addr × Obj)) (s : Shared) (σ : St) (H : Hp) (Q : VK), Inv X pins σ H s → t σ H Q → wpAny (model X.prog X.w) X.A (eval e X.env) (EP X pins σ Q) X.xe s
noncomputable def PT (X : Cx) (e : Expr) (t : TT) : Prop :=
  ∀ (pins : List (Addr × Obj)) (s : Shared) (σ : St) (H : Hp) (Q : Bool → Hp → Prop), Inv X pins σ H s → t σ H Q → wpAny (model X.prog X.w) X.A (isTrue e X.env (eval e X.env)) (TP X pins σ Q) X.xe s
noncomputable def PW (X : Cx) (e : Expr) (t : TT) : Prop :=
  ∀ (whole : Sem Value) (pins : List (Addr × Obj)) (s : Shared) (σ : St) (H : Hp) (Q : Bool → Hp → Prop), Inv X pins σ H s → t σ H Q → wpAny (model X.prog X.w) X.A (isTrue e X.env whole) (TP X pins σ Q) X.xe s
theorem PW.pt {X : Cx} {e : Expr} {t : TT} (h : PW X e t) : PT X e t := h _
noncomputable def PA (X : Cx) (es : List Expr) (t : TA) : Prop :=
  ∀ (pos : Pos) (pins : List (Addr × Obj)) (s : Shared) (σ : St) (H : Hp) (Q : List V → Hp → Prop), Inv X pins σ H s → t σ H Q → wpAny (model X.prog X.w) X.A (spliced (backTo pos (starEach es X.env))) (AP X pins σ Q) X.xe s
noncomputable def PS (X : Cx) (st : Stmt) (t : TS) : Prop :=
  ∀ (pins : List (Addr × Obj)) (s : Shared) (σ : St) (H : Hp) (D : Ends), Inv X pins σ H s → t D σ H → wpAny (model X.prog X.w) X.A (exec st X.env) (SP X pins D) X.xe s
noncomputable def PSs (X : Cx) (st : List Stmt) (t : TS) : Prop :=
  ∀ (pins : List (Addr × Obj)) (s : Shared) (σ : St) (H : Hp) (D : Ends), Inv X pins σ H s → t D σ H → wpAny (model X.prog X.w) X.A (execs st X.env) (SP X pins D) X.xe s
theorem thn {α : Type} {t : Sem α} {Q Q' : α → Shared → Prop} {M : Model} {A : Around} {E : Value → Shared → Prop} {s : Shared} (h : wpAny M A t Q E s) (hQ : ∀ a s, Q a s → Q' a s) : wpAny M A t Q' E s := wpAny_mono h hQ fun _ _ x => x
end L2
namespace L2
open PySem PySem.Spec PyProof.Rows
section
variable {X : Cx}
noncomputable def tVar (i : Nat) : TE := fun σ H Q => ∃ v, σ[i]? = some (some v) ∧ Q v H
noncomputable def tC (v : V) : TE := fun _ H Q => Q v H
theorem pe_var {i : Nat} {x : Str} {pos : Pos} (hN : X.N[i]? = some x) (hv : Vis X.env.scope x) (hd : (x == ("__debug__" : Str)) = false := by decide) (hcd : (x == ("__classdict__" : Str)) = false := by decide) : PE X (.Name x pos) (tVar i) := by
  intro pins s σ H Q I h
  obtain ⟨v, e, h⟩ := h
  obtain ⟨m, hn, hl⟩ := I.loc
  obtain ⟨u, r, l⟩ := hl i x v hN e hv
  have fin : EP X pins σ Q u s := ⟨v, H, I, r, h⟩
  rcases l with ⟨hk, hm⟩ | ⟨hk, c, hc, hcell⟩
  · exact wpAny_Name (wpAny_loadName_local I.ok.kind hk hn hm fin) hd
  · rcases hk with hk | hk
    · exact wpAny_Name (wpAny_loadName_cell I.ok.kind hk hc hcell fin) hd
    · exact wpAny_Name (wpAny_loadName_free I.ok.kind hk hc hcell fin hcd) hd
theorem pe_int {i j pos} : PE X (.Constant (.int i) j pos) (tC (.int i)) := fun _ _ _ H _ I h => wpAny_Constant_int ⟨.int i, H, I.tok _, ⟨_, rfl⟩, h⟩
theorem pe_bl {b j pos} : PE X (.Constant (.bool b) j pos) (tC (.bl b)) := fun _ _ _ H _ I h => Constant_bool ⟨.bl b, H, I, rfl, h⟩
theorem pe_str {x j pos} : PE X (.Constant (.str x) j pos) (tC (.str x)) := fun _ _ _ H _ I h => Calls.Constant_str ⟨.str x, H, I.tok _, ⟨_, rfl⟩, h⟩
noncomputable def Gl (X : Cx) (x : Str) : Prop := X.env.kindOf x = some .globalImplicit
theorem ld_glob {E : Value → Shared → Prop} {pins : List (Addr × Obj)} {s : Shared} {σ : St} {H : Hp} {x : Str} {u : Value} {pos : Pos} {Q : Value → Shared → Prop} (I : Inv X pins σ H s) (hg : Gl X x) (hm : X.mg x = some u) (h : Q u s)
    (hd : (x == ("__debug__" : Str)) = false := by decide) : wpAny (model X.prog X.w) X.A (eval (.Name x pos) X.env) Q E s :=
  Calls.Name_function_global I.ok.kind hg (Calls.loadGlobal_global (by rw [I.ok.glob]; exact I.mod.glob.keeps I.bk) hm h) hd
theorem ld_blt {E : Value → Shared → Prop} {pins : List (Addr × Obj)} {s : Shared} {σ : St} {H : Hp} {x : Str} {u : Value} {pos : Pos} {Q : Value → Shared → Prop} (I : Inv X pins σ H s) (hg : Gl X x) (hm : X.mg x = none) (hv : bootBuiltins x = some u) (h : Q u s)
    (hn : x ≠ "__name__" := by decide) (hd : (x == ("__debug__" : Str)) = false := by decide) : wpAny (model X.prog X.w) X.A (eval (.Name x pos) X.env) Q E s := by
  obtain ⟨mb, h1, h2⟩ := I.mod.blt
  exact Calls.Name_function_global I.ok.kind hg (Calls.loadGlobal_builtin (by rw [I.ok.glob]; exact I.mod.glob.keeps I.bk) hm (by rw [I.ok.blt]; exact h1.keeps I.bk) ((h2 x hn).trans hv) h) hd
theorem pe_glob {x : Str} {v : V} {u : Value} {pos : Pos} (hg : Gl X x) (hm : X.mg x = some u) (r : RelV v u) (hd : (x == ("__debug__" : Str)) = false := by decide) : PE X (.Name x pos) (tC v) :=
  fun _ _ _ H _ I h => ld_glob I hg hm ⟨v, H, I, r, h⟩ hd
theorem pe_bltn {x : Str} {v : V} {u : Value} {pos : Pos} (hg : Gl X x) (hm : X.mg x = none) (hv : bootBuiltins x = some u) (r : RelV v u) (hn : x ≠ "__name__" := by decide) (hd : (x == ("__debug__" : Str)) = false := by decide) : PE X (.Name x pos) (tC v) :=
  fun _ _ _ H _ I h => ld_blt I hg hm hv ⟨v, H, I, r, h⟩ hn hd
variable {a b : Expr} {ta tb : TE} {pos : Pos}
noncomputable def tB (t : TE) : TT := fun σ H Q => t σ H fun x H1 => ∃ c, x = .bl c ∧ Q c H1
theorem pt_val {e : Expr} {t : TE} (h : PE X e t) (he : ∀ whole, isTrue e X.env whole = (do let v ← whole; standAt e.pos; holding [v] (truthy v)) := by intro _; rfl) : PT X e (tB t) := by
  intro pins s σ H Q I hw
  refine isTrue_plain (thn (h pins s σ H _ I hw) fun v s1 ⟨x, H1, I1, r1, q1⟩ => ?_) (he _)
  obtain ⟨d, rfl, q⟩ := q1
  cases r1
  exact wpAny_truthy_bool ⟨H1, I1, q⟩
variable {tA tB' : TT} {rest : List Expr}
noncomputable def tAnd (t u : TT) : TT := fun σ H Q => t σ H fun c H1 => if c = true then u σ H1 Q else Q false H1
noncomputable def tOr (t u : TT) : TT := fun σ H Q => t σ H fun c H1 => if c = true then Q true H1 else u σ H1 Q
noncomputable def tNot (t : TT) : TT := fun σ H Q => t σ H fun c H1 => Q (!c) H1
theorem pw_and1 (ha : PT X a tA) : PW X (.BoolOp .And [a] pos) tA := by
  intro wh pins s σ H Q I h
  refine isTrue_and (thn (ha pins s σ H Q I h) fun c s1 e => ?_)
  cases c with
  | true => exact isTrue_and_nil e
  | false => exact e
theorem pw_or1 (ha : PT X a tA) : PW X (.BoolOp .Or [a] pos) tA := by
  intro wh pins s σ H Q I h
  refine isTrue_or (thn (ha pins s σ H Q I h) fun c s1 e => ?_)
  cases c with
  | false => exact isTrue_or_nil e
  | true => exact e
theorem pw_and (ha : PT X a tA) (hb : PW X (.BoolOp .And (b :: rest) pos) tB') : PW X (.BoolOp .And (a :: b :: rest) pos) (tAnd tA tB') := by
  intro wh pins s σ H Q I h
  refine isTrue_and (thn (ha pins s σ H _ I h) fun c s1 ⟨H1, I1, q1⟩ => ?_)
  cases c with
  | true => exact hb wh pins s1 σ H1 Q I1 q1
  | false => exact ⟨H1, I1, q1⟩
theorem pw_or (ha : PT X a tA) (hb : PW X (.BoolOp .Or (b :: rest) pos) tB') : PW X (.BoolOp .Or (a :: b :: rest) pos) (tOr tA tB') := by
  intro wh pins s σ H Q I h
  refine isTrue_or (thn (ha pins s σ H _ I h) fun c s1 ⟨H1, I1, q1⟩ => ?_)
  cases c with
  | true => exact ⟨H1, I1, q1⟩
  | false => exact hb wh pins s1 σ H1 Q I1 q1
theorem pt_not (ha : PT X a tA) : PT X (.UnaryOp .Not a pos) (tNot tA) := by
  intro pins s σ H Q I h
  exact isTrue_not (ha pins s σ H (fun c H1 => Q (!c) H1) I h)
noncomputable def tIf (t : TT) (ta tb : TE) : TE := fun σ H Q => t σ H fun c H1 => if c = true then ta σ H1 Q else tb σ H1 Q
theorem pe_ifExp {c : Expr} (hc : PT X c tA) (ha : PE X a ta) (hb : PE X b tb) : PE X (.IfExp c a b pos) (tIf tA ta tb) := by
  intro pins s σ H Q I h
  refine wpAny_IfExp (thn (hc pins s σ H _ I h) fun d s1 ⟨H1, I1, q1⟩ => ?_)
  cases d with
  | true => exact ha pins s1 σ H1 Q I1 q1
  | false => exact hb pins s1 σ H1 Q I1 q1
end
end L2
namespace L2
open PySem PySem.Spec PyProof.Rows
noncomputable def SqL (K : PySem.W.Frag) (H : Hp) (a : Addr) (xs : List V) : Prop :=
  Rd H a (.lst xs) ∨
    ∃ (o : Obj) (its : Array Value) (n : Nat), K.lookup a = some o ∧ o.cls = .type "list" ∧ o.dict = none ∧ o.data = .seq its n ∧ its.size ≤ sizeLine ∧ Vals xs its.toList
noncomputable def SqT (K : PySem.W.Frag) (H : Hp) (a : Addr) (xs : List V) : Prop :=
  Rd H a (.tup xs) ∨
    ∃ (o : Obj) (its : Array Value) (n : Nat), K.lookup a = some o ∧ o.cls = .type "tuple" ∧ o.data = .seq its n ∧ its.size ≤ sizeLine ∧ Vals xs its.toList
noncomputable def absV : Value → Option V
  | .none => some .non
  | .bool b => some (.bl b)
  | .int i _ => some (.int i)
  | .str x _ => some (.str x)
  | .bytes b _ => some (.byt b)
  | .float b _ => some (.flt b)
  | .ref a => some (.ref a)
  | .type n => some (.ty n)
  | _ => none
theorem RelV.abs {x : V} {u : Value} (r : RelV x u) : absV u = some x := by
  cases x with
  | non => cases r; rfl
  | bl _ => cases r; rfl
  | int _ => obtain ⟨t, rfl⟩ := r; rfl
  | str _ => obtain ⟨t, rfl⟩ := r; rfl
  | byt _ => obtain ⟨t, rfl⟩ := r; rfl
  | flt _ => obtain ⟨t, rfl⟩ := r; rfl
  | ref _ => cases r; rfl
  | ty _ => cases r; rfl
theorem RelV.inj {x y : V} {u : Value} (r : RelV x u) (q : RelV y u) : x = y := Option.some.inj (r.abs.symm.trans q.abs)
theorem Vals.inj : ∀ {xs ys : List V} {us : List Value}, Vals xs us → Vals ys us → xs = ys
  | _, _, _, .nil, .nil => rfl
  | _, _, _, .cons r t, .cons r' t' => by rw [r.inj r', Vals.inj t t']
section
variable {X : Cx} {pins : List (Addr × Obj)} {σ : St} {H : Hp} {s : Shared} {a : Addr} {xs ys : List V}
theorem SqL.of {K : PySem.W.Frag} (h : H a = some (.lst xs)) : SqL K H a xs := .inl (.inl h)
theorem SqT.of {K : PySem.W.Frag} (h : H a = some (.tup xs)) : SqT K H a xs := .inl (.inl h)
theorem Inv.list (I : Inv X pins σ H s) (h : SqL X.K H a xs) : ∃ its : List Value, Vals xs its ∧ PlainL s.heap a its.toArray ∧ xs.length ≤ sizeLine := by
  rcases h with h | ⟨o, its, n, hk, hc, hd, hs, hz, r⟩
  · obtain ⟨z, its, n, r, e⟩ := h.ok I.hok
    exact ⟨its, r, ⟨_, n, e, rfl, rfl, rfl⟩, z⟩
  · refine ⟨its.toList, r, ⟨o, n, I.kIn a o hk, hc, hd, by simpa using hs⟩, ?_⟩
    have e := r.length
    simp only [Array.length_toList] at e
    omega
theorem Inv.tuple (I : Inv X pins σ H s) (h : SqT X.K H a xs) : ∃ its : List Value, Vals xs its ∧ IsTup s.heap a its.toArray ∧ xs.length ≤ sizeLine := by
  rcases h with h | ⟨o, its, n, hk, hc, hs, hz, r⟩
  · obtain ⟨z, its, r, p⟩ := h.ok I.hok
    exact ⟨its, r, p, z⟩
  · refine ⟨its.toList, r, ⟨o, I.kIn a o hk, hc, n, by simpa using hs⟩, ?_⟩
    have e := r.length
    simp only [Array.length_toList] at e
    omega
theorem Inv.list_inj (I : Inv X pins σ H s) (h : SqL X.K H a xs) (h' : SqL X.K H a ys) : xs = ys := by
  obtain ⟨its, r, ⟨o, n, e, _, _, d⟩, _⟩ := I.list h
  obtain ⟨its', r', ⟨o', n', e', _, _, d'⟩, _⟩ := I.list h'
  rw [e] at e'; cases e'
  rw [d] at d'
  injection d' with d1 _
  have : its = its' := by simpa using congrArg Array.toList d1
  subst this
  exact r.inj r'
end
noncomputable abbrev Cx.wish (X : Cx) (E : Value → Shared → Prop) : Cx := { X with xe := E }
noncomputable abbrev Cx.nox (X : Cx) : Cx := X.wish fun _ _ => False
theorem Cx.Ok.wish {X : Cx} (ok : X.Ok) (E : Value → Shared → Prop) : (X.wish E).Ok :=
  ⟨ok.mod, ok.kind, ok.glob, ok.blt, ok.above, ok.inj, ok.has, ok.cab, ok.hd, ok.frames, ok.stk, ok.exf, ok.bs, ok.bsz, ok.noex, ok.exfs, ok.funs, ok.frf⟩
theorem Cx.Ok.unwish {X : Cx} {E : Value → Shared → Prop} (ok : (X.wish E).Ok) : X.Ok :=
  ⟨ok.mod, ok.kind, ok.glob, ok.blt, ok.above, ok.inj, ok.has, ok.cab, ok.hd, ok.frames, ok.stk, ok.exf, ok.bs, ok.bsz, ok.noex, ok.exfs, ok.funs, ok.frf⟩
section
variable {X : Cx} {pins : List (Addr × Obj)} {σ : St} {H : Hp} {s : Shared} {E : Value → Shared → Prop}
theorem Inv.wish (I : Inv X pins σ H s) (E : Value → Shared → Prop) : Inv (X.wish E) pins σ H s := ⟨I.ok.wish E, I.os, I.bare, I.base, I.loc, I.cell, I.free, I.freeC, I.pin, I.hok, I.len⟩
theorem Inv.unwish (I : Inv (X.wish E) pins σ H s) : Inv X pins σ H s := ⟨I.ok.unwish, I.os, I.bare, I.base, I.loc, I.cell, I.free, I.freeC, I.pin, I.hok, I.len⟩
theorem SP.unwish {D : Ends} {f : Flow} {s' : Shared} (h : SP (X.wish E) pins D f s') : SP X pins D f s' := by
  cases f with
  | next => obtain ⟨σ', H', I, q⟩ := h; exact ⟨σ', H', I.unwish, q⟩
  | brk => obtain ⟨σ', H', I, q⟩ := h; exact ⟨σ', H', I.unwish, q⟩
  | cont => obtain ⟨σ', H', I, q⟩ := h; exact ⟨σ', H', I.unwish, q⟩
  | ret u => obtain ⟨v, σ', H', I, r, q⟩ := h; exact ⟨v, σ', H', I.unwish, r, q⟩
theorem PE.nox {e : Expr} {t : TE} (h : PE X.nox e t) : PE X e t := fun pins s σ H Q I hw =>
  wpAny_mono (h pins s σ H Q (I.wish _) hw) (fun _ _ ⟨v, H', I', r, q⟩ => ⟨v, H', I'.unwish, r, q⟩) fun _ _ z => False.elim z
theorem PT.nox {e : Expr} {t : TT} (h : PT X.nox e t) : PT X e t := fun pins s σ H Q I hw =>
  wpAny_mono (h pins s σ H Q (I.wish _) hw) (fun _ _ ⟨H', I', q⟩ => ⟨H', I'.unwish, q⟩) fun _ _ z => False.elim z
theorem PSs.nox {st : List Stmt} {t : TS} (h : PSs X.nox st t) : PSs X st t := fun pins s σ H D I hw =>
  wpAny_mono (h pins s σ H D (I.wish _) hw) (fun _ _ q => q.unwish) fun _ _ z => False.elim z
end
section
variable {X : Cx} {st : Stmt} {rest : List Stmt} {t u : TS} {e : Expr} {te : TE} {pos : Pos}
noncomputable def tNext : TS := fun D σ H => D.nx σ H
noncomputable def tSeq (t u : TS) : TS := fun D σ H => t { D with nx := u D } σ H
theorem pss_nil : PSs X [] tNext := fun _ _ σ H _ I h => wpAny_execs_nil ⟨σ, H, I, h⟩
theorem pss_cons (h1 : PS X st t) (h2 : PSs X rest u) : PSs X (st :: rest) (tSeq t u) := by
  intro pins s σ H D I h
  refine wpAny_execs_cons (thn (h1 pins s σ H { D with nx := u D } I h) fun f s1 q => ?_)
  cases f with
  | next =>
    obtain ⟨σ', H', I', q⟩ := q
    exact h2 pins s1 σ' H' D I' q
  | ret v => exact q
  | brk => exact q
  | cont => exact q
theorem pss_one (h1 : PS X st t) : PSs X [st] t := by
  intro pins s σ H D I h
  refine wpAny_execs_cons (thn (h1 pins s σ H D I h) fun f s1 q => ?_)
  cases f with
  | next => exact wpAny_execs_nil q
  | ret v => exact q
  | brk => exact q
  | cont => exact q
theorem Inv.quiet {pins : List (Addr × Obj)} {σ : St} {H : Hp} {s : Shared} (I : Inv X pins σ H s) : interactive X.env = false := by simp [interactive, I.ok.kind]
noncomputable def tDrop (te : TE) : TS := fun D σ H => te σ H fun _ H1 => D.nx σ H1
theorem ps_expr (he : PE X e te) (hs : swapsWith e none pos.line X.env = pure false := by rfl) : PS X (.Expr e pos) (tDrop te) := by
  intro pins s σ H D I h
  exact wpAny_Expr_any (thn (he pins s σ H _ I h) fun v s1 ⟨x, H1, I1, r1, q1⟩ => ⟨σ, H1, I1, q1⟩) I.quiet hs
noncomputable def tRet (te : TE) : TS := fun D σ H => te σ H D.rt
theorem ps_ret (he : PE X e te) : PS X (.Return (some e) pos) (tRet te) := by
  intro pins s σ H D I h
  exact wpAny_Return_some (thn (he pins s σ H _ I h) fun v s1 ⟨x, H1, I1, r1, q1⟩ => ⟨x, σ, H1, I1, r1, q1⟩)
noncomputable def tIfS (c : TT) (t u : TS) : TS := fun D σ H => c σ H fun b H1 => if b = true then t D σ H1 else u D σ H1
theorem ps_if {c : Expr} {a b : List Stmt} {tc : TT} (hc : PT X c tc) (ha : PSs X a t) (hb : PSs X b u) : PS X (.If c a b pos) (tIfS tc t u) := by
  intro pins s σ H D I h
  refine wpAny_If (thn (hc pins s σ H _ I h) fun d s1 ⟨H1, I1, q1⟩ => ?_)
  cases d with
  | true => exact ha pins s1 σ H1 D I1 q1
  | false => exact hb pins s1 σ H1 D I1 q1
end
noncomputable abbrev TG := V → St → Hp → (St → Hp → Prop) → Prop
noncomputable abbrev TGs := List V → St → Hp → (St → Hp → Prop) → Prop
noncomputable def PG (X : Cx) (target : Expr) (t : TG) : Prop :=
  ∀ (pins : List (Addr × Obj)) (s : Shared) (σ : St) (H : Hp) (v : V) (u : Value) (Q : St → Hp → Prop), Inv X pins σ H s → RelV v u → t v σ H Q →
    wpAny (model X.prog X.w) X.A (assign target X.env u) (fun _ s' => ∃ σ' H', Inv X pins σ' H' s' ∧ Q σ' H') X.xe s
noncomputable def PGs (X : Cx) (ts : List Expr) (t : TGs) : Prop :=
  ∀ (pins : List (Addr × Obj)) (s : Shared) (σ : St) (H : Hp) (vs : List V) (us : List Value) (Q : St → Hp → Prop), Inv X pins σ H s → Vals vs us → t vs σ H Q →
    wpAny (model X.prog X.w) X.A (assignInOrder ((assignEach ts X.env).map (·.2)) us) (fun _ s' => ∃ σ' H', Inv X pins σ' H' s' ∧ Q σ' H') X.xe s
section
variable {X : Cx} {pos : Pos}
noncomputable def gName (i : Nat) : TG := fun v σ H Q => Q (σ.set i (some v)) H
theorem pg_name {i : Nat} {x : Str} (hN : X.N.Nodup) (hi : X.N[i]? = some x) (hx : Loc X.env.scope x) (hf : X.fn x = true ∨ X.env.scope.names.lookup x = some .local := by first | exact .inl rfl | exact .inr rfl | assumption) : PG X (.Name x pos) (gName i) := by
  intro pins s σ H v u Q I r h
  exact wpAny_assign_Name (store_ok I hN hi hx r (fun s' I' => ⟨_, H, I', h⟩) hf)
noncomputable def gNil : TGs := fun vs σ H Q => vs = [] ∧ Q σ H
noncomputable def gCons (t : TG) (u : TGs) : TGs := fun vs σ H Q => ∃ v r, vs = v :: r ∧ t v σ H fun σ' H' => u r σ' H' Q
theorem pgs_nil : PGs X [] gNil := by
  intro pins s σ H vs us Q I r h
  obtain ⟨e, h⟩ := h
  subst e
  cases r
  exact assignInOrder_nil ⟨σ, H, I, h⟩
theorem pgs_cons {e : Expr} {es : List Expr} {t : TG} {u : TGs} (h1 : PG X e t) (h2 : PGs X es u)
    (hs : (assignEach (e :: es) X.env).map (·.2) = assign e X.env :: (assignEach es X.env).map (·.2) := by rfl) : PGs X (e :: es) (gCons t u) := by
  intro pins s σ H vs us Q I r h
  obtain ⟨v, vr, e1, h⟩ := h
  subst e1
  cases r with
  | cons r rr =>
    rw [hs]
    refine assignInOrder_cons (thn (h1 pins s σ H _ _ _ I r h) fun _ s1 ⟨σ1, H1, I1, q1⟩ => ?_)
    exact h2 pins s1 σ1 H1 _ _ Q I1 rr q1
noncomputable def gTup (K : PySem.W.Frag) (n : Nat) (t : TGs) : TG := fun v σ H Q => ∃ a xs, v = .ref a ∧ SqT K H a xs ∧ xs.length = n ∧ t xs σ H Q
theorem pg_tup {es : List Expr} {k : Nat} {t : TGs} {n : Nat} (hc : X.calm = true) (h : PGs X es t)
    (hn : (assignEach es X.env).length = n := by rfl) (hst : (assignEach es X.env).findIdx? (·.1) = none := by rfl) : PG X (.Tuple es k pos) (gTup X.K n t) := by
  intro pins s σ H v u Q I r hw
  obtain ⟨a, xs, e1, hq, hl, hw⟩ := hw
  subst e1
  cases r
  obtain ⟨its, rv, ht, hz⟩ := I.tuple hq
  refine assign_Tuple_tuple (I.ok.hd hc) ht (by simp [hn, ← hl, rv.length]) hst fun h' hx => ?_
  have I1 : Inv X pins σ H { s with heap := h' } := I.kept (t' := s.toks) fun b o e => hx b o (Nat.ne_of_lt (Heap.lt_size e)) e
  exact h pins _ σ H xs _ Q I1 (by simpa using rv) hw
noncomputable def tAsg (te : TE) (g : TG) : TS := fun D σ H => te σ H fun x H1 => g x σ H1 D.nx
theorem ps_asg {tg e : Expr} {te : TE} {g : TG} (he : PE X e te) (hg : PG X tg g) (hs : swapsWithSole [tg] e pos.line X.env = pure false := by rfl) (hw : swappedStores [tg] e X.env = pure none := by rfl)
    (h1 : (assignEach [tg] X.env).map (·.2) = [assign tg X.env] := by rfl) : PS X (.Assign [tg] e pos) (tAsg te g) := by
  intro pins s σ H D I h
  refine wpAny_Assign_stores (thn (he pins s σ H _ I h) fun v s1 ⟨x, H1, I1, r1, q1⟩ => ?_) hs hw
  rw [h1]
  exact thn (hg pins s1 σ H1 x v _ I1 r1 q1) fun _ s2 q => q
theorem ps_set {i : Nat} {x : Str} {e : Expr} {te : TE} {pos' : Pos} (hN : X.N.Nodup) (hi : X.N[i]? = some x) (hx : Loc X.env.scope x) (he : PE X e te) (hs : swapsWith e (some (.Name x pos')) pos.line X.env = pure false := by rfl) (hf : X.fn x = true ∨ X.env.scope.names.lookup x = some .local := by first | exact .inl rfl | exact .inr rfl | assumption) :
    PS X (.Assign [.Name x pos'] e pos) (tAsg te (gName i)) := by
  intro pins s σ H D I h
  refine wpAny_Assign_Name (thn (he pins s σ H _ I h) fun v s1 ⟨y, H1, I1, r1, q1⟩ => ?_) hs
  exact store_ok I1 hN hi hx r1 (fun s2 I2 => ⟨_, H1, I2, q1⟩) hf
noncomputable def tPar (i j : Nat) (ta : TA) : TS := fun D σ H => ta σ H fun vs H1 => ∃ v w, vs = [v, w] ∧ D.nx ((σ.set i (some v)).set j (some w)) H1
theorem ps_par {i j : Nat} {x y : Str} {a b : Expr} {ta : TA} {px py pt : Pos} {kt k2 pt2} (hc : X.calm = true) (hN : X.N.Nodup) (hi : X.N[i]? = some x) (hj : X.N[j]? = some y) (hij : i ≠ j)
    (hx : X.env.scope.names.lookup x = some .local) (hy : X.env.scope.names.lookup y = some .local) (ha : PA X [a, b] ta)
    (hw : swappedStores [.Tuple [.Name x px, .Name y py] kt pt] (.Tuple [a, b] k2 pt2) X.env = pure (some [x, y]))
    (hs : swapsWithSole [.Tuple [.Name x px, .Name y py] kt pt] (.Tuple [a, b] k2 pt2) pos.line X.env = pure false := by rfl) :
    PS X (.Assign [.Tuple [.Name x px, .Name y py] kt pt] (.Tuple [a, b] k2 pt2) pos) (tPar i j ta) := by
  intro pins s σ H D I h
  rw [exec_Assign_arm]
  refine wpAny_bind (wpAny_standAt ?_)
  rw [hs]
  refine wpAny_bind (wpAny_pure ?_)
  rw [if_neg (by decide)]
  refine wpAny_bind (Tuple_ (thn (ha _ pins s σ H _ I h) fun us s1 ⟨vs, H1, I1, r1, q1⟩ => ?_))
  obtain ⟨v, w, e1, q1⟩ := q1
  subst e1
  obtain ⟨u1, u2, rfl, rv, rw'⟩ : ∃ u1 u2, us = [u1, u2] ∧ RelV v u1 ∧ RelV w u2 := by
    cases r1 with
    | cons p q =>
      cases q with
      | cons p' q' =>
        cases q'
        exact ⟨_, _, rfl, p, p'⟩
  refine wpAny_newObj_type ?_ (by show 2 ≤ sizeLine; decide)
  have I2 : Inv X pins σ H1 { s1 with heap := s1.heap.push { cls := .type "tuple", data := .seq [u1, u2].toArray } } := I1.kept (t' := s1.toks) fun b o e => Heap.get?_push_of_some _ e
  rw [hw]
  refine wpAny_bind (wpAny_pure ?_)
  show wpAny (model X.prog X.w) X.A (do rule "assign.swapped-stores"; let items ← unpackItems (.ref s1.heap.objs.size) 2 none; assignInOrder [fun v => bindName X.env y v, fun v => bindName X.env x v] items.reverse; pure Flow.next) _ _ _
  refine wpAny_bind (wpAny_rule (wpAny_bind (unpackItems_tuple (items := #[u1, u2]) (I.ok.hd hc) (IsTup.new s1.heap _) fun h' hx' => ?_)))
  have I3 := I2.kept (h' := h') (t' := s1.toks) fun b o e => hx' b o (Nat.ne_of_lt (Heap.lt_size e)) e
  show wpAny _ _ (assignInOrder [fun v => bindName X.env y v, fun v => bindName X.env x v] [u2, u1] >>= fun _ => pure Flow.next) _ _ _
  refine wpAny_bind (assignInOrder_cons (wpAny_bindName (store_ok I3 hN hj (.inl hy) rw' (fun s2 I4 => ?_) (.inr hy))))
  refine assignInOrder_cons (wpAny_bindName (store_ok I4 hN hi (.inl hx) rv (fun s3 I5 => assignInOrder_nil (wpAny_pure ?_)) (.inr hx)))
  rw [List.set_comm _ _ (Ne.symm hij)] at I5
  exact ⟨_, H1, I5, q1⟩
end
section
variable {X : Cx} {pos : Pos}
noncomputable def tWhile (c : TT) (tb : TS) : TS := fun D σ H => ∃ W : Nat → St → Hp → Prop, (∃ m, W m σ H) ∧ ∀ m σ H, W m σ H →
  c σ H fun b H1 => if b = true then ∃ N : St → Hp → Prop, (∀ σ' H', N σ' H' → ∃ m', m' < m ∧ W m' σ' H') ∧ tb { D with nx := N, ct := N, bk := D.nx } σ H1 else D.nx σ H1
theorem ps_while {c : Expr} {body : List Stmt} {tc : TT} {tb : TS} (hp : PassesOwn (model X.prog X.w) X.A X.env X.xe) (hc : PT X c tc) (hb : PSs X body tb) : PS X (.While c body [] pos) (tWhile tc tb) := by
  intro pins s σ H D I h
  obtain ⟨W, ⟨m0, w0⟩, turn⟩ := h
  refine wpAny_While (codeAny_whileLoop (fun n s' => ∃ σ' H', Inv X pins σ' H' s' ∧ W n σ' H') ?_ m0 ⟨σ, H, I, w0⟩)
  rintro n s1 ⟨σ1, H1, I1, w1⟩
  refine wpAny_passesOwn hp (thn (hc pins s1 σ1 H1 _ I1 (turn n σ1 H1 w1)) fun b s2 ⟨H2, I2, q2⟩ => ?_)
  cases b with
  | true =>
    obtain ⟨N, hN, q2⟩ := q2
    rw [if_pos rfl]
    refine wpAny_passesOwn hp (thn (hb pins s2 σ1 H2 _ I2 q2) fun f s3 q3 => ?_)
    cases f with
    | next =>
      obtain ⟨σ3, H3, I3, n3⟩ := q3
      obtain ⟨m', hm, w3⟩ := hN σ3 H3 n3
      exact ⟨m', hm, σ3, H3, I3, w3⟩
    | cont =>
      obtain ⟨σ3, H3, I3, n3⟩ := q3
      obtain ⟨m', hm, w3⟩ := hN σ3 H3 n3
      exact ⟨m', hm, σ3, H3, I3, w3⟩
    | brk => exact q3
    | ret v => exact q3
  | false =>
    rw [if_neg Bool.false_ne_true]
    exact wpAny_execs_nil ⟨σ1, H2, I2, q2⟩
end
structure It where
  go : Nat → Hp → Prop
  yld : Nat → Hp → V → Hp → Prop
  stop : Nat → Hp → Prop
noncomputable def FpOk (X : Cx) (pins : List (Addr × Obj)) (H : Hp) (b : Addr) : Prop :=
  H b = none ∧ b ≠ X.env.locals ∧ b ∉ X.fs ∧ (b ∈ X.ex ∨ X.s₀.heap.objs.size ≤ b) ∧ (∀ x c, X.env.cells.lookup x = some c → c ≠ b) ∧ ∀ p ∈ X.pn ++ pins, p.1 ≠ b
theorem Inv.fpOk {X : Cx} {pins : List (Addr × Obj)} {σ : St} {H H' : Hp} {s : Shared} {b : Addr} (I : Inv X pins σ H s) (hb : s.heap.objs.size ≤ b) (hn : H' b = none) : FpOk X pins H' b := by
  refine ⟨hn, Nat.ne_of_gt (Nat.lt_of_lt_of_le I.lt hb), I.nofs hb, .inr (Nat.le_trans I.sz hb), fun x c e z => ?_, fun p hp z => ?_⟩
  · obtain ⟨v, q⟩ := I.cell x c e
    exact absurd (Nat.lt_of_lt_of_le q.lt (by rw [z]; exact hb)) (Nat.lt_irrefl _)
  · exact absurd (Nat.lt_of_lt_of_le (Heap.lt_size (I.pin p hp).1) (by rw [z]; exact hb)) (Nat.lt_irrefl _)
structure Turn (P : Program) (w : World) (K : PySem.W.Frag) (tg : Expr) (J : It) (fp : List Addr) (it : Addr) (tn : Nat → Heap → Prop) : Prop where
  mem : it ∈ fp
  obj : ∀ i h, tn i h → ∀ b ∈ fp, ∃ o, h.get? b = some o ∧ ∀ v, o.data ≠ .cell v
  keep : ∀ i h h', tn i h → (∀ b ∈ fp, ∀ o, h.get? b = some o → h'.get? b = some o) → tn i h'
  item : ∀ (X : Cx), X.prog = P → X.w = w → X.K = K → X.calm = true → ∀ (i : Nat) (pins : List (Addr × Obj)) (s : Shared) (σ : St) (H : Hp) (E : Value → Shared → Prop), Inv X pins σ H s → (∀ b ∈ fp, FpOk X pins H b) → tn i s.heap → J.go i H →
    wpAny (model P w) X.A (pyNext (.ref it)) (fun r s1 => ∃ u, r = some u ∧
      wpAny (model P w) X.A (letOwnedTupleGo tg (.ref it) u) (fun _ s2 => ∃ x H', Inv X pins σ H' s2 ∧ RelV x u ∧ J.yld i H x H' ∧ tn (i + 1) s2.heap ∧ ∀ b ∈ fp, H' b = none) E s1) E s
  done : ∀ (X : Cx), X.prog = P → X.w = w → X.K = K → X.calm = true → ∀ (i : Nat) (pins : List (Addr × Obj)) (s : Shared) (σ : St) (H : Hp) (E : Value → Shared → Prop), Inv X pins σ H s → (∀ b ∈ fp, FpOk X pins H b) → tn i s.heap → J.stop i H →
    wpAny (model P w) X.A (pyNext (.ref it)) (fun r s1 => r = none ∧ Inv X pins σ H s1) E s
  self : ∀ (A : Around) (i : Nat) (s : Shared) (Q : Value → Shared → Prop) (E : Value → Shared → Prop), tn i s.heap → Q (.ref it) s → wpAny (model P w) A (pyIter (.ref it)) Q E s
noncomputable abbrev TI := St → Hp → (It → Hp → Prop) → Prop
noncomputable def PIE (X : Cx) (pins : List (Addr × Obj)) (σ : St) (tg : Expr) (R : It → Hp → Prop) (itv : Value) (s2 : Shared) : Prop :=
  ∃ (it : Addr) (fp : List Addr) (tn : Nat → Heap → Prop) (J : It) (H' : Hp), itv = .ref it ∧ Inv X pins σ H' s2 ∧ Turn X.prog X.w X.K tg J fp it tn ∧ tn 0 s2.heap ∧ (∀ b ∈ fp, FpOk X pins H' b) ∧ R J H'
noncomputable def PI (X : Cx) (tg iter : Expr) (wi : TI) : Prop :=
  ∀ (pins : List (Addr × Obj)) (s : Shared) (σ : St) (H : Hp) (R : It → Hp → Prop), Inv X pins σ H s → wi σ H R →
    wpAny (model X.prog X.w) X.A (eval iter X.env) (fun v s1 => wpAny (model X.prog X.w) X.A (pyIter v) (PIE X pins σ tg R) X.xe s1) X.xe s
theorem go_of {M : Model} {A : Around} {E : Value → Shared → Prop} {s : Shared} {tg : Expr} {it : Addr} {u : Value} {o : Obj} {n : String} {vs : Array Value} {Q : Unit → Shared → Prop} (ho : s.heap.get? it = some o) (hc : o.cls = .type n) (hd : o.data = .fields vs)
    (hn : ["enumerate", "zip", "dict_itemiterator", "dict_reverseitemiterator", "odict_iterator", "itertools.zip_longest", "itertools.pairwise"].contains n = false) (hQ : Q () s) : wpAny M A (letOwnedTupleGo tg (.ref it) u) Q E s := by
  unfold letOwnedTupleGo
  cases tg <;> first
    | exact wpAny_pure hQ
    | (cases u <;> first
        | exact wpAny_pure hQ
        | (refine wpAny_bind (wpAny_load ho ?_)
           rw [hc, hd]
           show wpAny M A (if (["enumerate", "zip", "dict_itemiterator", "dict_reverseitemiterator", "odict_iterator", "itertools.zip_longest", "itertools.pairwise"].contains n && vs[0]? == some (rawInt _)) = true then _ else _) Q E s
           rw [if_neg (by intro h; rw [hn, Bool.false_and] at h; cases h)]
           exact wpAny_pure hQ))
noncomputable def Itl (K : PySem.W.Frag) (a : Addr) : It :=
  ⟨fun i H => ∃ xs x, SqL K H a xs ∧ xs[i]? = some x, fun i H x H' => H' = H ∧ ∀ xs, SqL K H a xs → xs[i]? = some x, fun i H => ∃ xs, SqL K H a xs ∧ xs.length ≤ i⟩
noncomputable def Itr (lo : Int) (n : Nat) : It := ⟨fun i _ => i < n, fun i H x H' => H' = H ∧ x = .int (lo + i), fun i _ => n ≤ i⟩
theorem turn_list {P : Program} {w : World} {K : PySem.W.Frag} {tg : Expr} (a it : Addr) : Turn P w K tg (Itl K a) [it] it (fun i h => h.IsListIter it a i) where
  mem := by simp
  obj := fun i h st b hb => by
    have e : b = it := by simpa using hb
    subst e
    obtain ⟨o, e, c, d⟩ := st
    exact ⟨o, e, fun v z => by rw [d] at z; cases z⟩
  keep := fun i h h' st k => st.at fun o e => k it (by simp) o e
  item := by
    intro X hP hw hK hc i pins s σ H E I hf st hg
    subst hP hw hK
    obtain ⟨xs, x, hq, hx⟩ := hg
    obtain ⟨its, rv, p, hz⟩ := I.list hq
    obtain ⟨u, hu, ru⟩ := rv.get hx
    obtain ⟨f0, f1, f2, f3, f4, f5⟩ := hf it (by simp)
    refine wpAny_pyNext_list_item st p.isList (x := u) (by simpa using hu) fun h' st' sb => ?_
    have I1 : Inv X pins σ H { s with heap := h' } := I.turned (t' := s.toks) (fun b o hb e => (sb.2 b hb).trans e) f0 f1 f3 f4 f5
    obtain ⟨o, e, c, d⟩ := id st'
    exact ⟨u, rfl, go_of (s := { s with heap := h' }) e c d (by decide) ⟨x, H, I1, ru, ⟨rfl, fun ys hy => by rw [I.list_inj hy hq]; exact hx⟩, st', fun b hb => (hf b hb).1⟩⟩
  done := by
    intro X hP hw hK hc i pins s σ H E I hf st hg
    subst hP hw hK
    obtain ⟨xs, hq, hx⟩ := hg
    obtain ⟨its, rv, p, hz⟩ := I.list hq
    obtain ⟨f0, f1, f2, f3, f4, f5⟩ := hf it (by simp)
    have hl := rv.length
    exact wpAny_pyNext_list_end (I.ok.hd hc) st p.isList (by simp; omega) fun h' eb => ⟨rfl, I.turned (t' := s.toks) (fun b o hb e => eb b o hb e) f0 f1 f3 f4 f5⟩
  self := fun _ _ _ _ _ st h => wpAny_pyIter_listiter st h
theorem turn_range {P : Program} {w : World} {K : PySem.W.Frag} {tg : Expr} (it : Addr) (lo : Int) (n : Nat) : Turn P w K tg (Itr lo n) [it] it (fun i h => IsRangeIter h it (lo + (i : Nat) * 1) ((n : Int) - (i : Nat)) 1) where
  mem := by simp
  obj := fun i h st b hb => by
    have e : b = it := by simpa using hb
    subst e
    exact ⟨_, st, fun v z => by
      have z' : Data.fields _ = Data.cell v := z
      cases z'⟩
  keep := fun i h h' st k => k it (by simp) _ st
  item := by
    intro X hP hw hK hc i pins s σ H E I hf st hg
    subst hP hw hK
    obtain ⟨f0, f1, f2, f3, f4, f5⟩ := hf it (by simp)
    have W := Walks.range (prog := X.prog) (w := X.w) (I.ok.hd hc) it lo 1 n
    refine W.item i s _ _ hg st fun v h' tk hv st' kk => ?_
    obtain ⟨t, rfl⟩ := hv
    have I1 : Inv X pins σ H { s with heap := h', toks := tk } := I.turned (fun b o hb e => kk b o (by simpa using hb) e) f0 f1 f3 f4 f5
    refine ⟨_, rfl, go_of (s := { s with heap := h', toks := tk }) (n := "range_iterator") st' rfl rfl (by decide) ⟨.int (lo + i), H, I1, ⟨t, ?_⟩, ⟨rfl, rfl⟩, st', fun b hb => (hf b hb).1⟩⟩
    rw [Int.mul_one]
  done := by
    intro X hP hw hK hc i pins s σ H E I hf st hg
    subst hP hw hK
    obtain ⟨f0, f1, f2, f3, f4, f5⟩ := hf it (by simp)
    exact wpAny_pyNext_range_end (I.ok.hd hc) st (by have : n ≤ i := hg; omega) fun h' eb => ⟨rfl, I.turned (t' := s.toks) (fun b o hb e => eb b o hb e) f0 f1 f3 f4 f5⟩
  self := fun _ _ _ _ _ st h => wpAny_pyIter_rangeiter st h
end L2
namespace L2
open PySem PySem.Spec PyProof.Rows
section
variable {X : Cx} {tg : Expr}
noncomputable def iList (K : PySem.W.Frag) (tl : TE) : TI := fun σ H R => tl σ H fun x H1 => ∃ a, x = .ref a ∧ (∃ xs, SqL K H1 a xs) ∧ R (Itl K a) H1
theorem pi_list {l : Expr} {tl : TE} (hl : PE X l tl) : PI X tg l (iList X.K tl) := by
  intro pins s σ H R I h
  refine thn (hl pins s σ H _ I h) fun v s1 ⟨x, H1, I1, r1, q1⟩ => ?_
  obtain ⟨a, e, ⟨xs, hq⟩, q⟩ := q1
  subst e
  cases r1
  obtain ⟨its, rv, p, hz⟩ := I1.list hq
  refine wpAny_pyIter_list p.isList ?_
  refine ⟨s1.heap.objs.size, [s1.heap.objs.size], _, _, H1, rfl, I1.kept (t' := s1.toks) fun b o e => Heap.get?_push_of_some _ e, turn_list a _, ⟨_, Heap.get?_push_size _ rfl, rfl, rfl⟩, fun b hb => ?_, q⟩
  have e : b = s1.heap.objs.size := by simpa using hb
  subst e
  exact I1.fpOk (Nat.le_refl _) (I1.hok.fresh (Nat.le_refl _))
theorem range_it {pins : List (Addr × Obj)} {σ : St} {H : Hp} {s : Shared} {R : It → Hp → Prop} {E : Value → Shared → Prop} {lo hi : Int} {t u v : Tok} {tk : Nat} (I : Inv X pins σ H s) (h1 : -(2 ^ 62) ≤ lo) (h2 : lo < 2 ^ 62) (h3 : -(2 ^ 62) ≤ hi) (h4 : hi < 2 ^ 62)
    (q : R (Itr lo (hi - lo).toNat) H) : wpAny (model X.prog X.w) X.A (pyIter (.ref s.heap.objs.size)) (PIE X pins σ tg R) E { s with heap := s.heap.push { cls := .type "range", data := .fields #[.int lo t, .int hi u, .int 1 v] }, toks := tk } := by
  refine wpAny_pyIter_range (IsRange.new ..) (small_one h1 h2 h3 h4) ?_
  have I1 : Inv X pins σ H { s with heap := s.heap.push { cls := .type "range", data := .fields #[.int lo t, .int hi u, .int 1 v] }, toks := tk } := I.kept fun b o e => Heap.get?_push_of_some _ e
  refine ⟨(s.heap.push { cls := .type "range", data := .fields #[.int lo t, .int hi u, .int 1 v] }).objs.size, [(s.heap.push { cls := .type "range", data := .fields #[.int lo t, .int hi u, .int 1 v] }).objs.size], _, _, H, rfl,
    I1.kept (t' := tk) fun b o e => Heap.get?_push_of_some _ e, turn_range _ lo (hi - lo).toNat, ?_, fun b hb => ?_, q⟩
  · have e1 : lo + ((0 : Nat) : Int) * 1 = lo := by simp
    have e2 : (((hi - lo).toNat : Nat) : Int) - ((0 : Nat) : Int) = Builtin.Range.rangeSize lo hi 1 := by rw [rangeSize_one]; split <;> omega
    show IsRangeIter _ _ (lo + ((0 : Nat) : Int) * 1) ((((hi - lo).toNat : Nat) : Int) - ((0 : Nat) : Int)) 1
    rw [e1, e2]
    exact Heap.get?_push_size _ rfl
  · have e : b = (s.heap.push { cls := .type "range", data := .fields #[.int lo t, .int hi u, .int 1 v] }).objs.size := by simpa using hb
    subst e
    exact I1.fpOk (Nat.le_refl _) (I1.hok.fresh (Nat.le_refl _))
noncomputable def iRng1 (ta : TA) : TI := fun σ H R => ta σ H fun vs H1 => ∃ j : Int, vs = [.int j] ∧ -(2 ^ 62) ≤ j ∧ j < 2 ^ 62 ∧ R (Itr 0 j.toNat) H1
noncomputable def iRng2 (ta : TA) : TI := fun σ H R => ta σ H fun vs H1 => ∃ i j : Int, vs = [.int i, .int j] ∧ (-(2 ^ 62) ≤ i ∧ i < 2 ^ 62 ∧ -(2 ^ 62) ≤ j ∧ j < 2 ^ 62) ∧ R (Itr i (j - i).toNat) H1
theorem pi_range1 {a : Expr} {ta : TA} {p pos : Pos} (hg : Gl X "range") (hm : X.mg "range" = none) (ha : PA X [a] ta) (hs : starEach [a] X.env = [(false, eval a X.env)] := by rfl) : PI X tg (.Call (.Name "range" p) [a] [] pos) (iRng1 ta) := by
  intro pins s σ H R I h
  refine Call_ (ld_blt I hg hm boot_range (PyProof.Rows.callWith_type1 (thn (ha pos pins s σ H _ I h) fun us s1 ⟨vs, H1, I1, r1, q1⟩ => ?_) hs rfl))
  obtain ⟨j, e, q1, q2, q⟩ := q1
  subst e
  cases r1 with
  | cons r rr =>
    cases rr
    obtain ⟨t, rfl⟩ := r
    exact call_range_1 (range_it I1 (by omega) (by omega) q1 q2 (by simpa using q))
theorem pi_range2 {a b : Expr} {ta : TA} {p pos : Pos} (hg : Gl X "range") (hm : X.mg "range" = none) (ha : PA X [a, b] ta) (hs : starEach [a, b] X.env = [(false, eval a X.env), (false, eval b X.env)] := by rfl) (hs2 : starEach [b] X.env = [(false, eval b X.env)] := by rfl) :
    PI X tg (.Call (.Name "range" p) [a, b] [] pos) (iRng2 ta) := by
  intro pins s σ H R I h
  refine Call_ (ld_blt I hg hm boot_range (PyProof.Rows.callWith_type1 (thn (ha pos pins s σ H _ I h) fun us s1 ⟨vs, H1, I1, r1, q1⟩ => ?_) (by rw [hs, hs2]) (by rw [hs2]; rfl)))
  obtain ⟨i, j, e, ⟨q1, q2, q3, q4⟩, q⟩ := q1
  subst e
  cases r1 with
  | cons r rr =>
    cases rr with
    | cons r' rr =>
      cases rr
      obtain ⟨t, rfl⟩ := r
      obtain ⟨t', rfl⟩ := r'
      exact call_range_2 (range_it I1 q1 q2 q3 q4 q)
noncomputable def tFor (wi : TI) (g : TG) (tb : TS) : TS := fun D σ H => wi σ H fun J H1 => ∃ W : Nat → Nat → St → Hp → Prop, (∃ m, W 0 m σ H1) ∧ ∀ i m σ H, W i m σ H →
  (J.stop i H ∧ D.nx σ H) ∨ (J.go i H ∧ ∃ N : St → Hp → Prop, (∀ σ' H', N σ' H' → ∃ m', m' < m ∧ W (i + 1) m' σ' H') ∧ ∀ x H', J.yld i H x H' → g x σ H' fun σ2 H2 => tb { D with nx := N, ct := N, bk := D.nx } σ2 H2)
noncomputable def pinsAt (fp : List Addr) (h : Heap) : List (Addr × Obj) := fp.filterMap fun b => (h.get? b).map fun o => (b, o)
theorem mem_pinsAt {fp : List Addr} {h : Heap} {b : Addr} {o : Obj} (hb : b ∈ fp) (e : h.get? b = some o) : (b, o) ∈ pinsAt fp h := List.mem_filterMap.mpr ⟨b, hb, by rw [e]; rfl⟩
theorem of_pinsAt {fp : List Addr} {h : Heap} {p : Addr × Obj} (hp : p ∈ pinsAt fp h) : p.1 ∈ fp ∧ h.get? p.1 = some p.2 := by
  obtain ⟨b, hb, e⟩ := List.mem_filterMap.mp hp
  cases q : h.get? b with
  | none => rw [q] at e; cases e
  | some o =>
    rw [q] at e
    have e' : (b, o) = p := Option.some.inj e
    subst e'
    exact ⟨hb, q⟩
theorem Inv.pinned {pins : List (Addr × Obj)} {σ : St} {H : Hp} {s : Shared} {fp : List Addr} (I : Inv X pins σ H s) (hf : ∀ b ∈ fp, FpOk X pins H b) (ho : ∀ b ∈ fp, ∃ o, s.heap.get? b = some o ∧ ∀ v, o.data ≠ .cell v) : Inv X (pins ++ pinsAt fp s.heap) σ H s :=
  I.pins_of fun p hp => (List.mem_append.mp hp).elim (fun z => I.pin p (List.mem_append_right _ z)) fun z => by
    obtain ⟨hb, e⟩ := of_pinsAt z
    obtain ⟨f0, f1, f2, _⟩ := hf p.1 hb
    obtain ⟨o, e', d⟩ := ho p.1 hb
    rw [e] at e'; cases e'
    exact ⟨e, f0, f1, f2, d⟩
theorem Inv.unpinned {pins pl : List (Addr × Obj)} {σ : St} {H : Hp} {s : Shared} (I : Inv X (pins ++ pl) σ H s) : Inv X pins σ H s := I.pins_of fun p hp => I.pin p (List.mem_append_right _ (List.mem_append_left _ hp))
theorem ps_for {iter : Expr} {body : List Stmt} {wi : TI} {g : TG} {tb : TS} {pos : Pos} (hp : PassesOwn (model X.prog X.w) X.A X.env X.xe) (hc : X.calm = true) (hi : PI X tg iter wi) (hg : PG X tg g) (hb : PSs X body tb)
    (hs : ∀ x, foldedSetIterable iter X.env x = pure x := by intro _; rfl) : PS X (.For tg iter body [] pos) (tFor wi g tb) := by
  intro pins s σ H D I h
  refine wpAny_For (thn (hi pins s σ H _ I h) fun v s1 h1 => thn h1 fun itv s2 h2 => ?_) hs
  obtain ⟨it, fp, tn, J, H2, e, I2, T, st2, f2, W, ⟨m0, w0⟩, turn⟩ := h2
  subst e
  have stat : ∀ {H' : Hp}, (∀ b ∈ fp, H' b = none) → ∀ b ∈ fp, FpOk X pins H' b := fun hn b hb => ⟨hn b hb, (f2 b hb).2⟩
  refine codeAny_forLoop_any (fun n s' => ∃ i σ' H', Inv X pins σ' H' s' ∧ tn i s'.heap ∧ (∀ b ∈ fp, H' b = none) ∧ W i n σ' H') ?_ m0 ⟨0, σ, H2, I2, st2, fun b hb => (f2 b hb).1, w0⟩
  rintro n s3 ⟨i, σ3, H3, I3, st3, fr3, w3⟩
  rcases turn i n σ3 H3 w3 with ⟨stop, qn⟩ | ⟨go, N, hN, step⟩
  · refine wpAny_passesOwn hp (thn (T.done X rfl rfl rfl hc i pins s3 σ3 H3 X.xe I3 (stat fr3) st3 stop) fun r s4 ⟨hr, I4⟩ => ?_)
    subst hr
    exact wpAny_execs_nil ⟨σ3, H3, I4, qn⟩
  · refine wpAny_passesOwn hp (thn (T.item X rfl rfl rfl hc i pins s3 σ3 H3 X.xe I3 (stat fr3) st3 go) fun r s4 ⟨u, hr, h4⟩ => ?_)
    subst hr
    refine wpAny_passesOwn hp (thn h4 fun _ s5 ⟨x, H5, I5, r5, y5, st5, fr5⟩ => ?_)
    have I5' := I5.pinned (stat fr5) (T.obj _ _ st5)
    refine wpAny_passesOwn hp (thn (hg _ s5 σ3 H5 x u _ I5' r5 (step x H5 y5)) fun _ s6 ⟨σ6, H6, I6, q6⟩ => ?_)
    refine wpAny_passesOwn hp (thn (hb _ s6 σ6 H6 _ I6 q6) fun f s7 q7 => ?_)
    have again : ∀ {σ7 : St} {H7 : Hp}, Inv X (pins ++ pinsAt fp s5.heap) σ7 H7 s7 → N σ7 H7 → ∃ m, m < n ∧ ∃ i σ' H', Inv X pins σ' H' s7 ∧ tn i s7.heap ∧ (∀ b ∈ fp, H' b = none) ∧ W i m σ' H' := fun {σ7 H7} I7 n7 => by
      obtain ⟨m', hm, w7⟩ := hN σ7 H7 n7
      refine ⟨m', hm, i + 1, σ7, H7, I7.unpinned, T.keep _ _ _ st5 fun b hb o e => (I7.pin (b, o) (List.mem_append_right _ (List.mem_append_right _ (mem_pinsAt hb e)))).1, fun b hb => ?_, w7⟩
      obtain ⟨o, e, d⟩ := T.obj _ _ st5 b hb
      exact (I7.pin (b, o) (List.mem_append_right _ (List.mem_append_right _ (mem_pinsAt hb e)))).2.1
    cases f with
    | next => obtain ⟨σ7, H7, I7, n7⟩ := q7; exact again I7 n7
    | cont => obtain ⟨σ7, H7, I7, n7⟩ := q7; exact again I7 n7
    | brk => obtain ⟨σ7, H7, I7, q7⟩ := q7; exact ⟨σ7, H7, I7.unpinned, q7⟩
    | ret v => obtain ⟨x7, σ7, H7, I7, r7, q7⟩ := q7; exact ⟨x7, σ7, H7, I7.unpinned, r7, q7⟩
end
end L2
namespace L2
open PySem PySem.Spec PyProof.Rows
noncomputable abbrev R2 := V → V → Hp → VK → Prop
noncomputable def OpR (X : Cx) (f : Value → Value → Sem Value) (r : R2) : Prop :=
  ∀ (pins : List (Addr × Obj)) (s : Shared) (σ : St) (H : Hp) (x y : V) (v u : Value) (Q : VK), Inv X pins σ H s → RelV x v → RelV y u → r x y H Q →
    wpAny (model X.prog X.w) X.A (f v u) (EP X pins σ Q) X.xe s
noncomputable def UnR (X : Cx) (f : Value → Sem Value) (r : V → Hp → VK → Prop) : Prop :=
  ∀ (pins : List (Addr × Obj)) (s : Shared) (σ : St) (H : Hp) (x : V) (v : Value) (Q : VK), Inv X pins σ H s → RelV x v → r x H Q →
    wpAny (model X.prog X.w) X.A (f v) (EP X pins σ Q) X.xe s
noncomputable def CallR (X : Cx) (f : Value) (r : List V → Hp → VK → Prop) : Prop :=
  ∀ (pins : List (Addr × Obj)) (s : Shared) (σ : St) (H : Hp) (xs : List V) (us : List Value) (Q : VK), Inv X pins σ H s → Vals xs us → r xs H Q →
    wpAny (model X.prog X.w) X.A (call f us) (EP X pins σ Q) X.xe s
noncomputable def tOp (r : R2) (ta tb : TE) : TE := fun σ H Q => ta σ H fun x H1 => tb σ H1 fun y H2 => r x y H2 Q
noncomputable def tUn (r : V → Hp → VK → Prop) (ta : TE) : TE := fun σ H Q => ta σ H fun x H1 => r x H1 Q
noncomputable def rI (C : Int → Int → Prop) (g : Int → Int → V) : R2 := fun x y H Q => ∃ i j, x = .int i ∧ y = .int j ∧ C i j ∧ Q (g i j) H
noncomputable def rI0 (g : Int → Int → V) : R2 := fun x y H Q => ∃ i j, x = .int i ∧ y = .int j ∧ Q (g i j) H
noncomputable def rU (g : Int → V) : V → Hp → VK → Prop := fun x H Q => ∃ i, x = .int i ∧ Q (g i) H
section
variable {X : Cx} {a b c : Expr} {ta tb tc : TE} {pos : Pos}
theorem binT (ha : PE X a ta) (hb : PE X b tb) {pins : List (Addr × Obj)} {s : Shared} {σ : St} {H : Hp} {R : V → V → Hp → Prop} (I : Inv X pins σ H s)
    (h : ta σ H fun x H1 => tb σ H1 fun y H2 => R x y H2) {Q : Value → Shared → Prop} {f : Value → Value → Sem Value}
    (hf : ∀ v u s2 x y H2, Inv X pins σ H2 s2 → RelV x v → RelV y u → R x y H2 → wpAny (model X.prog X.w) X.A (f v u) Q X.xe s2) :
    wpAny (model X.prog X.w) X.A (eval a X.env) (fun v s₁ => wpAny (model X.prog X.w) X.A (eval b X.env) (fun u s₂ => wpAny (model X.prog X.w) X.A (f v u) Q X.xe s₂) X.xe s₁) X.xe s := by
  refine thn (ha pins s σ H _ I h) fun v s1 ⟨x, H1, I1, r1, q1⟩ => ?_
  refine thn (hb pins s1 σ H1 _ I1 q1) fun u s2 ⟨y, H2, I2, r2, q2⟩ => ?_
  exact hf v u s2 x y H2 I2 r1 r2 q2
theorem pe_op {op : Operator} {r : R2} (ho : OpR X (binaryOp op) r) (ha : PE X a ta) (hb : PE X b tb) : PE X (.BinOp a op b pos) (tOp r ta tb) := by
  intro pins s σ H Q I h
  exact wpAny_BinOp (binT ha hb I h fun v u s2 x y H2 I2 rx ry q => ho pins s2 σ H2 x y v u Q I2 rx ry q)
theorem pe_un {op : UnaryOp} {r : V → Hp → VK → Prop} (ho : UnR X (unaryOp op) r) (ha : PE X a ta) : PE X (.UnaryOp op a pos) (tUn r ta) := by
  intro pins s σ H Q I h
  exact UnaryOp_ (thn (ha pins s σ H _ I h) fun v s1 ⟨x, H1, I1, r1, q1⟩ => ho pins s1 σ H1 x v Q I1 r1 q1)
theorem opI {f : Value → Value → Sem Value} {C : Int → Int → Prop} {g : Int → Int → Int}
    (rule : ∀ (i j : Int) (t u : Tok) (s : Shared) (Q : Value → Shared → Prop) (E : Value → Shared → Prop), C i j → Q (.int (g i j) s.toks) { s with toks := s.toks + 1 } → wpAny (model X.prog X.w) X.A (f (.int i t) (.int j u)) Q E s) :
    OpR X f (rI C fun i j => .int (g i j)) := by
  intro pins s σ H x y v u Q I rx ry h
  obtain ⟨i, j, rfl, rfl, hc, q⟩ := h
  obtain ⟨t, rfl⟩ := rx
  obtain ⟨t', rfl⟩ := ry
  exact rule i j t t' s _ _ hc ⟨.int (g i j), H, I.tok _, ⟨_, rfl⟩, q⟩
theorem opI0 {f : Value → Value → Sem Value} {g : Int → Int → Int}
    (rule : ∀ (i j : Int) (t u : Tok) (s : Shared) (Q : Value → Shared → Prop) (E : Value → Shared → Prop), Q (.int (g i j) s.toks) { s with toks := s.toks + 1 } → wpAny (model X.prog X.w) X.A (f (.int i t) (.int j u)) Q E s) :
    OpR X f (rI0 fun i j => .int (g i j)) := by
  intro pins s σ H x y v u Q I rx ry h
  obtain ⟨i, j, rfl, rfl, q⟩ := h
  obtain ⟨t, rfl⟩ := rx
  obtain ⟨t', rfl⟩ := ry
  exact rule i j t t' s _ _ ⟨.int (g i j), H, I.tok _, ⟨_, rfl⟩, q⟩
theorem opB0 {f : Value → Value → Sem Value} {g : Int → Int → Bool}
    (rule : ∀ (i j : Int) (t u : Tok) (s : Shared) (Q : Value → Shared → Prop) (E : Value → Shared → Prop), Q (.bool (g i j)) s → wpAny (model X.prog X.w) X.A (f (.int i t) (.int j u)) Q E s) :
    OpR X f (rI0 fun i j => .bl (g i j)) := by
  intro pins s σ H x y v u Q I rx ry h
  obtain ⟨i, j, rfl, rfl, q⟩ := h
  obtain ⟨t, rfl⟩ := rx
  obtain ⟨t', rfl⟩ := ry
  exact rule i j t t' s _ _ ⟨.bl (g i j), H, I, rfl, q⟩
noncomputable def CPow (i j : Int) : Prop := 0 ≤ j ∧ j ≤ 1000000 ∧ i.natAbs < 2 ^ 64
noncomputable def CMul (i j : Int) : Prop := (-(2 ^ 64) < i ∧ i < 2 ^ 64) ∨ (-(2 ^ 64) < j ∧ j < 2 ^ 64)
theorem CMul.ok {i j : Int} (h : CMul i j) : IntMulOk i j := by
  rcases h with ⟨h1, h2⟩ | ⟨h1, h2⟩
  · exact .of_left (intBits_le_64 h1 h2)
  · exact .of_right (intBits_le_64 h1 h2)
theorem op_add : OpR X (binaryOp .Add) (rI0 fun i j => .int (i + j)) := opI0 fun _ _ _ _ _ _ _ q => add_int q
theorem op_sub : OpR X (binaryOp .Sub) (rI0 fun i j => .int (i - j)) := opI0 fun _ _ _ _ _ _ _ q => sub_int q
theorem op_mod : OpR X (binaryOp .Mod) (rI (fun _ j => 0 < j) fun i j => .int (i % j)) := opI fun i j _ _ _ _ _ hc q => by
  have h1 : (0 : Int) < j := hc
  exact mod_int' (by omega) (by rw [Int.fmod_eq_emod_of_nonneg i (by omega)]; exact q)
theorem op_pow : OpR X (binaryOp .Pow) (rI CPow fun i j => .int (i ^ j.toNat)) := opI fun _ _ _ _ _ _ _ hc q => pow_int_small hc.1 hc.2.1 hc.2.2 q
theorem unI {f : Value → Sem Value} {g : Int → Int}
    (rule : ∀ (i : Int) (t : Tok) (s : Shared) (Q : Value → Shared → Prop) (E : Value → Shared → Prop), Q (.int (g i) s.toks) { s with toks := s.toks + 1 } → wpAny (model X.prog X.w) X.A (f (.int i t)) Q E s) :
    UnR X f (rU fun i => .int (g i)) := by
  intro pins s σ H x v Q I rx h
  obtain ⟨i, rfl, q⟩ := h
  obtain ⟨t, rfl⟩ := rx
  exact rule i t s _ _ ⟨.int (g i), H, I.tok _, ⟨_, rfl⟩, q⟩
theorem un_neg : UnR X (unaryOp .USub) (rU fun i => .int (-i)) := unI fun _ _ _ _ _ q => neg_int q
end
noncomputable def scal : V → V → Bool
  | .non, .non => true | .non, .int _ => true | .int _, .non => true | .non, .bl _ => true | .bl _, .non => true | .non, .str _ => true | .str _, .non => true
  | .int _, .int _ => true | .bl _, .bl _ => true | .str _, .str _ => true | .byt _, .byt _ => true
  | .int _, .str _ => true | .str _, .int _ => true | .bl _, .str _ => true | .str _, .bl _ => true
  | _, _ => false
noncomputable def rEq : R2 := fun x y H Q => scal x y = true ∧ Q (.bl (decide (x = y))) H
noncomputable def rNe : R2 := fun x y H Q => scal x y = true ∧ Q (.bl (!decide (x = y))) H
theorem dec_int {i j : Int} : decide (V.int i = V.int j) = (i == j) := by
  rw [Bool.eq_iff_iff]
  simp
theorem dec_bl {i j : Bool} : decide (V.bl i = V.bl j) = (i == j) := by
  rw [Bool.eq_iff_iff]
  simp
theorem dec_str {i j : Str} : decide (V.str i = V.str j) = (i == j) := by
  rw [Bool.eq_iff_iff]
  simp
theorem dec_byt {i j : Array UInt8} : decide (V.byt i = V.byt j) = (i.toList == j.toList) := by
  rw [Bool.eq_iff_iff]
  cases i
  cases j
  simp
section
variable {X : Cx} {a b c : Expr} {ta tb tc : TE} {pos : Pos}
theorem fin_bl {pins : List (Addr × Obj)} {σ : St} {H : Hp} {s : Shared} {Q : VK} {k k' : Bool} (I : Inv X pins σ H s) (q : Q (.bl k) H) (e : k = k') : EP X pins σ Q (.bool k') s := by
  subst e
  exact ⟨.bl k, H, I, rfl, q⟩
theorem op_eq : OpR X (compareOp .Eq) rEq := by
  intro pins s σ H x y v u Q I rx ry h
  obtain ⟨hs, q⟩ := h
  cases x with
  | non =>
    cases rx
    cases y with
    | non => cases ry; exact PySem.EqNone.eq_none_none (fin_bl I q (by simp))
    | bl j => cases ry; exact PySem.EqNone.eq_none_bool (fin_bl I q (by simp))
    | int j => obtain ⟨t', rfl⟩ := ry; exact PySem.EqNone.eq_none_int (fin_bl I q (by simp))
    | str j => obtain ⟨t', rfl⟩ := ry; exact PySem.EqNone.eq_none_str (fin_bl I q (by simp))
    | _ => exact absurd (show false = true from hs) Bool.false_ne_true
  | bl i =>
    cases rx
    cases y with
    | non => cases ry; exact PySem.EqNone.eq_bool_none (fin_bl I q (by simp))
    | bl j => cases ry; exact eq_bool (fin_bl I q dec_bl)
    | str j => obtain ⟨t', rfl⟩ := ry; exact PySem.EqMixed.eq_bool_str (fin_bl I q (by simp))
    | _ => exact absurd (show false = true from hs) Bool.false_ne_true
  | int i =>
    obtain ⟨t, rfl⟩ := rx
    cases y with
    | non => cases ry; exact PySem.EqNone.eq_int_none (fin_bl I q (by simp))
    | int j => obtain ⟨t', rfl⟩ := ry; exact eq_int (fin_bl I q dec_int)
    | str j => obtain ⟨t', rfl⟩ := ry; exact PySem.EqMixed.eq_int_str (fin_bl I q (by simp))
    | _ => exact absurd (show false = true from hs) Bool.false_ne_true
  | str i =>
    obtain ⟨t, rfl⟩ := rx
    cases y with
    | non => cases ry; exact PySem.EqNone.eq_str_none (fin_bl I q (by simp))
    | bl j => cases ry; exact PySem.EqMixed.eq_str_bool (fin_bl I q (by simp))
    | int j => obtain ⟨t', rfl⟩ := ry; exact PySem.EqMixed.eq_str_int (fin_bl I q (by simp))
    | str j => obtain ⟨t', rfl⟩ := ry; exact eq_str (fin_bl I q dec_str)
    | _ => exact absurd (show false = true from hs) Bool.false_ne_true
  | byt i =>
    obtain ⟨t, rfl⟩ := rx
    cases y with
    | byt j => obtain ⟨t', rfl⟩ := ry; exact PySem.W.eq_bytes (fin_bl I q dec_byt)
    | _ => exact absurd (show false = true from hs) Bool.false_ne_true
  | _ => cases y <;> exact absurd (show false = true from hs) Bool.false_ne_true
theorem op_ne : OpR X (compareOp .NotEq) rNe := by
  intro pins s σ H x y v u Q I rx ry h
  obtain ⟨hs, q⟩ := h
  cases x with
  | non =>
    cases rx
    cases y with
    | non => cases ry; exact PySem.EqNone.ne_none_none (fin_bl I q (by simp))
    | bl j => cases ry; exact PySem.EqNone.ne_none_bool (fin_bl I q (by simp))
    | int j => obtain ⟨t', rfl⟩ := ry; exact PySem.EqNone.ne_none_int (fin_bl I q (by simp))
    | str j => obtain ⟨t', rfl⟩ := ry; exact PySem.EqNone.ne_none_str (fin_bl I q (by simp))
    | _ => exact absurd (show false = true from hs) Bool.false_ne_true
  | bl i =>
    cases rx
    cases y with
    | non => cases ry; exact PySem.EqNone.ne_bool_none (fin_bl I q (by simp))
    | bl j => cases ry; exact ne_bool (fin_bl I q (congrArg not dec_bl))
    | str j => obtain ⟨t', rfl⟩ := ry; exact PySem.EqMixed.ne_bool_str (fin_bl I q (by simp))
    | _ => exact absurd (show false = true from hs) Bool.false_ne_true
  | int i =>
    obtain ⟨t, rfl⟩ := rx
    cases y with
    | non => cases ry; exact PySem.EqNone.ne_int_none (fin_bl I q (by simp))
    | int j => obtain ⟨t', rfl⟩ := ry; exact ne_int (fin_bl I q (congrArg not dec_int))
    | str j => obtain ⟨t', rfl⟩ := ry; exact PySem.EqMixed.ne_int_str (fin_bl I q (by simp))
    | _ => exact absurd (show false = true from hs) Bool.false_ne_true
  | str i =>
    obtain ⟨t, rfl⟩ := rx
    cases y with
    | non => cases ry; exact PySem.EqNone.ne_str_none (fin_bl I q (by simp))
    | bl j => cases ry; exact PySem.EqMixed.ne_str_bool (fin_bl I q (by simp))
    | int j => obtain ⟨t', rfl⟩ := ry; exact PySem.EqMixed.ne_str_int (fin_bl I q (by simp))
    | str j => obtain ⟨t', rfl⟩ := ry; exact ne_str (fin_bl I q (congrArg not dec_str))
    | _ => exact absurd (show false = true from hs) Bool.false_ne_true
  | byt i =>
    obtain ⟨t, rfl⟩ := rx
    cases y with
    | byt j => obtain ⟨t', rfl⟩ := ry; exact PySem.W.ne_bytes (fin_bl I q (congrArg not dec_byt))
    | _ => exact absurd (show false = true from hs) Bool.false_ne_true
  | _ => cases y <;> exact absurd (show false = true from hs) Bool.false_ne_true
theorem op_lt : OpR X (compareOp .Lt) (rI0 fun i j => .bl (decide (i < j))) := opB0 fun _ _ _ _ _ _ _ q => lt_int q
theorem op_gt : OpR X (compareOp .Gt) (rI0 fun i j => .bl (decide (j < i))) := opB0 fun _ _ _ _ _ _ _ q => gt_int q
theorem OpR.or {f : Value → Value → Sem Value} {r r' : R2} (h : OpR X f r) (h' : OpR X f r') : OpR X f (fun x y H Q => r x y H Q ∨ r' x y H Q) := by
  intro pins s σ H x y v u Q I rx ry q
  rcases q with q | q
  · exact h pins s σ H x y v u Q I rx ry q
  · exact h' pins s σ H x y v u Q I rx ry q
theorem nomark (b : Expr) {op : CmpOp} (h : op ≠ .In := by decide) (h2 : op ≠ .NotIn := by decide) : behindInMarks op b = false := by
  have e1 : (op == CmpOp.In) = false := by cases op <;> first | rfl | exact absurd rfl h
  have e2 : (op == CmpOp.NotIn) = false := by cases op <;> first | rfl | exact absurd rfl h2
  cases b <;> simp [behindInMarks, e1, e2]
theorem pe_cmpR {op : CmpOp} {r : R2} (ho : OpR X (compareOp op) r) (ha : PE X a ta) (hb : PE X b tb) (hm : behindInMarks op b = false) : PE X (.Compare a [op] [b] pos) (tOp r ta tb) := by
  intro pins s σ H Q I h
  exact wpAny_Compare1 (binT ha hb I h fun v u s2 x y H2 I2 rx ry q => ho pins s2 σ H2 x y v u Q I2 rx ry q) hm
noncomputable def tTest (t : TE) : TT := fun σ H Q => t σ H fun x H' => ∃ k, x = .bl k ∧ Q k H'
theorem pt_cmpR {op : CmpOp} {r : R2} (ho : OpR X (compareOp op) r) (ha : PE X a ta) (hb : PE X b tb) (hm : behindInMarks op b = false) : PT X (.Compare a [op] [b] pos) (tTest (tOp r ta tb)) := by
  intro pins s σ H Q I h
  refine wpAny_isTrue_Compare1 (thn (ha pins s σ H _ I h) fun v s1 ⟨x, H1, I1, r1, q1⟩ => thn (hb pins s1 σ H1 _ I1 q1) fun u s2 ⟨y, H2, I2, r2, q2⟩ =>
    thn (ho pins s2 σ H2 x y v u _ I2 r1 r2 q2) fun c s3 ⟨z, H3, I3, r3, k, e, q3⟩ => ?_) hm
  subst e
  cases r3
  exact wpAny_truthy_bool ⟨H3, I3, q3⟩
theorem line63 : (sizeLine : Nat) < 2 ^ 63 := by rw [sizeLine_eq]; decide
theorem vals1 {x : V} {us : List Value} (r : Vals [x] us) : ∃ u, us = [u] ∧ RelV x u := by
  cases r with
  | cons r1 r2 => cases r2; exact ⟨_, rfl, r1⟩
theorem vals2 {x y : V} {us : List Value} (r : Vals [x, y] us) : ∃ u w', us = [u, w'] ∧ RelV x u ∧ RelV y w' := by
  cases r with
  | cons r1 r2 =>
    cases r2 with
    | cons r3 r4 => cases r4; exact ⟨_, _, rfl, r1, r3⟩
theorem call_abs : CallR X (.builtin "abs") (fun xs H Q => ∃ i, xs = [.int i] ∧ Q (.int (if i < 0 then -i else i)) H) := by
  intro pins s σ H xs us Q I r h
  obtain ⟨i, rfl, q⟩ := h
  obtain ⟨u, rfl, t, rfl⟩ := vals1 r
  exact call_abs_int fun u tk => ⟨.int (if i < 0 then -i else i), H, I.tok _, ⟨_, rfl⟩, q⟩
theorem call_max2 (hc : X.calm = true) : CallR X (.builtin "max") (fun xs H Q => ∃ i j, xs = [.int i, .int j] ∧ Q (.int (if j > i then j else i)) H) := by
  intro pins s σ H xs us Q I r h
  obtain ⟨i, j, rfl, q⟩ := h
  obtain ⟨u, w', rfl, ⟨t, rfl⟩, ⟨t', rfl⟩⟩ := vals2 r
  refine max_two_ints (I.ok.hd hc) fun h' tk k => ⟨_, H, I.kept k, ?_, q⟩
  by_cases hj : j > i
  · rw [if_pos hj, if_pos hj]; exact ⟨_, rfl⟩
  · rw [if_neg hj, if_neg hj]; exact ⟨_, rfl⟩
theorem call_min2 (hc : X.calm = true) : CallR X (.builtin "min") (fun xs H Q => ∃ i j, xs = [.int i, .int j] ∧ Q (.int (if j < i then j else i)) H) := by
  intro pins s σ H xs us Q I r h
  obtain ⟨i, j, rfl, q⟩ := h
  obtain ⟨u, w', rfl, ⟨t, rfl⟩, ⟨t', rfl⟩⟩ := vals2 r
  refine min_two_ints (I.ok.hd hc) fun h' tk k => ⟨_, H, I.kept k, ?_, q⟩
  by_cases hj : j < i
  · rw [if_pos hj, if_pos hj]; exact ⟨_, rfl⟩
  · rw [if_neg hj, if_neg hj]; exact ⟨_, rfl⟩
end
end L2
namespace L2
open PySem PySem.Spec PyProof.Rows
structure ObjM (h : Heap) (x dx C : Addr) (mA : Str → Option Value) : Prop where
  obj : h.get? x = some (PySem.W.instObj C dx)
  ns : h.Ns1 dx mA
  ne : dx ≠ x
theorem lookIn_ns {h : Heap} {dx : Addr} {mA : Str → Option Value} (n : h.Ns1 dx mA) : ∃ od, h.get? dx = some od ∧ ∀ name, PySem.W.lookIn name od = some (mA name) := by
  obtain ⟨o, es, ep, ho, hd, hk, _, hm⟩ := n
  refine ⟨o, ho, fun name => ?_⟩
  have e := hm name
  unfold nsFind findBy at e
  rw [← Array.find?_toList] at e
  unfold PySem.W.lookIn
  rw [hd]
  dsimp only
  split
  · rename_i y q
    rw [q] at e
    exact congrArg some e
  · rename_i q
    rw [q] at e
    have a : es.toList.any (·.refKey) = false := by
      rw [List.any_eq_false]
      intro y hy
      obtain ⟨z, t, hkey⟩ := hk y (Array.mem_toList_iff.mp hy)
      simp [DictEntry.refKey, hkey]
    have a' : ¬ es.toList.any (·.refKey) = true := by rw [a]; exact Bool.false_ne_true
    rw [if_neg a']
    exact congrArg some e
theorem ObjM.look {h : Heap} {x dx C : Addr} {mA : Str → Option Value} (I : ObjM h x dx C mA) : ∃ od, PySem.W.InstAt h x (PySem.W.instObj C dx) C (some od) ∧ ∀ name, PySem.W.lookIn name od = some (mA name) :=
  let ⟨od, ho, hl⟩ := lookIn_ns I.ns
  ⟨od, ⟨I.obj, rfl, rfl, ho⟩, hl⟩
section
variable {prog : Program} {w : World} {A : Around} {E : Value → Shared → Prop} {s : Shared} {K : PySem.W.Frag} {x dx C f : Addr} {mA : Str → Option Value} {name : Str} {v : Value}
end
section
variable {P : Program} {w : World} {H H' : Hp} {h h' : Heap} {a C dx : Addr} {fs fs' : List (Str × V)}
theorem ins_get (hok : HOk P w H h) (e : H a = some (.ins C dx fs)) : ∃ mA, ObjM h a dx C mA ∧ (∀ f, RelO (fs.lookup f) (mA f)) ∧ PySem.Within mA (fs.map (·.1)) ∧ fs.length ≤ 1000 ∧ H dx = some (.own a) := by
  obtain ⟨d, z, ne, ob, mA, n, r, q⟩ := (show ObjOk P w H h a (.ins C dx fs) from hok a _ e)
  exact ⟨mA, ⟨ob, n, ne⟩, r, q, z, d⟩
end
structure Cls (K : PySem.W.Frag) (C : Addr) : Prop where
  pg : PySem.W.plainGet K C Str.empty = true
  hd : PySem.W.hasDictIn K C = true
  po : PySem.W.plainOver K C = true
  sa : PySem.W.findIn K (.ref C) "__setattr__" = some (some (.builtin "object.__setattr__"))
theorem Cls.get {K : PySem.W.Frag} {C : Addr} (c : Cls K C) (f : Str) : PySem.W.plainGet K C f = true := c.pg
structure Con (K : PySem.W.Frag) (C : Addr) (f : Str) (v : V) (u : Value) : Prop where
  at_ : PySem.W.findIn K (.ref C) f = some (some u)
  rel : RelV v u
  get : PySem.W.specialIn K u "__get__" = some none
  cp : PySem.W.copiedNames.contains f = false
structure Meth (K : PySem.W.Frag) (C : Addr) (m : Str) (f : Addr) : Prop where
  at_ : PySem.W.findIn K (.ref C) m = some (some (.ref f))
  fn : PySem.W.isFn K (.ref f) = true
  kp : PySem.W.keepIn K (.ref f) = true
section
variable {X : Cx} {pins : List (Addr × Obj)} {σ : St} {H : Hp} {s : Shared} {a C dx : Addr} {fs : List (Str × V)} {f : Str} {v : V} {A : Around} {E : Value → Shared → Prop}
theorem Inv.made (I : Inv X pins σ H s) : Inv X pins σ (upd (upd H s.heap.objs.size (.own (s.heap.objs.size + 1))) (s.heap.objs.size + 1) (.ins C s.heap.objs.size []))
    { s with heap := (s.heap.push PySem.W.emptyDict).push (PySem.W.instObj C s.heap.objs.size) } := by
  have e1 : (s.heap.push PySem.W.emptyDict).get? s.heap.objs.size = some PySem.W.emptyDict := Heap.get?_push_size s.heap rfl
  have e2 : ((s.heap.push PySem.W.emptyDict).push (PySem.W.instObj C s.heap.objs.size)).get? (s.heap.objs.size + 1) = some (PySem.W.instObj C s.heap.objs.size) := by
    have := Heap.get?_push_size (s.heap.push PySem.W.emptyDict) (o := PySem.W.instObj C s.heap.objs.size) rfl
    rwa [Heap.size_push] at this
  have e3 : (s.heap.push PySem.W.emptyDict).Ns s.heap.objs.size (fun _ => none) := ⟨PySem.W.emptyDict, #[], _, e1, rfl, (fun e he => absurd he (by simp)), fun _ => rfl⟩
  have I1 := I.laid (a := s.heap.objs.size) (o := .own (s.heap.objs.size + 1)) (h' := s.heap.push PySem.W.emptyDict) (t' := s.toks) (fun b u q => Heap.get?_push_of_some _ q) (Nat.le_refl _) ⟨_, e1⟩
  refine I1.laid (a := s.heap.objs.size + 1) (o := .ins C s.heap.objs.size []) (t' := s.toks) (fun b u q => Heap.get?_push_of_some _ q) (Nat.le_of_eq (Heap.size_push _ _)) ?_
  have ne : s.heap.objs.size ≠ s.heap.objs.size + 1 := Nat.ne_of_lt (Nat.lt_succ_self _)
  refine ⟨by rw [upd_ne ne, upd_same], Nat.zero_le _, ne, e2, fun _ => none, (Heap.Ns1.of_empty e3).at fun o q => Heap.get?_push_of_some _ q, fun _ => True.intro, fun y hy => absurd rfl hy⟩
end
section
variable {X : Cx} {o e value : Expr} {f : Str} {pos pos' tpos : Pos} {ta tv : TE}
end
section
variable {X : Cx} {pins : List (Addr × Obj)} {σ : St} {H : Hp} {s : Shared} {A : Around} {E : Value → Shared → Prop} {Q : Value → Shared → Prop} {c : Value} {b : Bool}
inductive TyOf (K : PySem.W.Frag) (H : Hp) : V → Value → Prop where
  | non : TyOf K H .non (.type "NoneType")
  | bl (x : Bool) : TyOf K H (.bl x) (.type "bool")
  | int (i : Int) : TyOf K H (.int i) (.type "int")
  | str (x : Str) : TyOf K H (.str x) (.type "str")
  | flt (x : UInt64) : TyOf K H (.flt x) (.type "float")
  | lst {a : Addr} {xs : List V} (e : H a = some (.lst xs)) : TyOf K H (.ref a) (.type "list")
  | frz {a : Addr} {o : Obj} {xs : List V} (e : H a = some (.frz o (.lst xs))) : TyOf K H (.ref a) (.type "list")
  | tup {a : Addr} {xs : List V} (e : H a = some (.tup xs)) : TyOf K H (.ref a) (.type "tuple")
  | dK {a : Addr} {kvs : List (Key × V)} (e : H a = some (.dK kvs)) : TyOf K H (.ref a) (.type "dict")
  | dT {a : Addr} {kvs : List (List Key × V)} (e : H a = some (.dT kvs)) : TyOf K H (.ref a) (.type "dict")
  | ins {a C dx : Addr} {fs : List (Str × V)} (e : H a = some (.ins C dx fs)) (cl : Cls K C) (ha : PySem.W.findIn K (.ref C) "__class__" = some (some (.builtin "object.__class__")))
      (hn : PySem.W.specialIn K (.builtin "object.__class__") "__get__" = some (some (.builtin "getset_descriptor.__get__"))) (htk : PySem.W.takesIn K (.builtin "object.__class__") = some true)
      (hm : PySem.W.mroIn K C (.type "object") = some true) : TyOf K H (.ref a) (.ref C)
theorem isinst_ok {x : V} {u t : Value} (I : Inv X pins σ H s) (rx : RelV x u) (ty : TyOf X.K H x t) (e : PySem.W.kitOne X.K t c = some b) (h : ∀ tk, Q (.bool b) { s with toks := tk }) :
    wpAny (model X.prog X.w) A (call (.builtin "isinstance") [u, c]) Q E s := by
  cases ty with
  | non => cases (show u = Value.none from rx); exact PySem.W.kia_one PySem.W.kitx_none I.kIn True.intro e (fun z => nomatch z) h
  | bl y => cases (show u = Value.bool y from rx); exact PySem.W.kia_one PySem.W.kitx_bool I.kIn True.intro e (fun z => nomatch z) h
  | int i => obtain ⟨t, q⟩ := (show ∃ t, u = Value.int i t from rx); cases q; exact PySem.W.kia_one PySem.W.kitx_int I.kIn True.intro e (fun z => nomatch z) h
  | str y => obtain ⟨t, q⟩ := (show ∃ t, u = Value.str y t from rx); cases q; exact PySem.W.kia_one PySem.W.kitx_str I.kIn True.intro e (fun z => nomatch z) h
  | flt y => obtain ⟨t, q⟩ := (show ∃ t, u = Value.float y t from rx); cases q; exact PySem.W.kia_one PySem.W.kitx_float I.kIn True.intro e (fun z => nomatch z) h
  | @lst a xs ea =>
    cases (show u = Value.ref a from rx)
    obtain ⟨_, _, n, _, h1⟩ := (show ObjOk X.prog X.w H s.heap a (.lst xs) from I.hok a _ ea)
    exact PySem.W.kia_one PySem.W.kitx_list I.kIn ⟨_, h1, rfl⟩ e (fun z => nomatch z) h
  | @frz a ob xs ea =>
    cases (show u = Value.ref a from rx)
    obtain ⟨_, _, _, n, _, h1⟩ := (show ObjOk X.prog X.w H s.heap a (.frz ob (.lst xs)) from I.hok a _ ea)
    exact PySem.W.kia_one PySem.W.kitx_list I.kIn ⟨_, h1, rfl⟩ e (fun z => nomatch z) h
  | @tup a xs ea =>
    cases (show u = Value.ref a from rx)
    obtain ⟨_, _, _, p⟩ := (show ObjOk X.prog X.w H s.heap a (.tup xs) from I.hok a _ ea)
    obtain ⟨o, h1, h2, _⟩ := p
    exact PySem.W.kia_one PySem.W.kitx_tuple I.kIn ⟨o, h1, h2⟩ e (fun z => nomatch z) h
  | @dK a kvs ea =>
    cases (show u = Value.ref a from rx)
    obtain ⟨_, _, vs, _, p⟩ := (show ObjOk X.prog X.w H s.heap a (.dK kvs) from I.hok a _ ea)
    obtain ⟨o, es, ep, h1, h2, _⟩ := p
    exact PySem.W.kia_one PySem.W.kitx_dict I.kIn ⟨o, h1, h2.1⟩ e (fun z => nomatch z) h
  | @dT a kvs ea =>
    cases (show u = Value.ref a from rx)
    obtain ⟨_, _, xs, _, o, es, ep, h1, h2, _⟩ := (show ObjOk X.prog X.w H s.heap a (.dT kvs) from I.hok a _ ea)
    exact PySem.W.kia_one PySem.W.kitx_dict I.kIn ⟨o, h1, h2.1⟩ e (fun z => nomatch z) h
  | @ins a C dx fs ea cl ha hn htk hm =>
    cases (show u = Value.ref a from rx)
    obtain ⟨mA, O, _⟩ := ins_get I.hok ea
    obtain ⟨od, J, _⟩ := O.look
    exact PySem.W.kia_one (PySem.W.kitx_own (cl.get _) cl.hd ha hn htk hm) I.kIn J e (fun z => nomatch z) h
end
end L2
namespace L2
open PySem PySem.Spec PyProof.Rows
structure Room (k : Nat) (A : Around) : Prop where
  hd : A.handled = none
  dp : A.depth + 3 * k + 5 < recursionLimit
  un : A.units + 16 * k + 200 < cLine
theorem Room.mono {j k : Nat} {A : Around} (r : Room k A) (h : j ≤ k) : Room j A := ⟨r.hd, by have := r.dp; omega, by have := r.un; omega⟩
theorem Room.deeper {k : Nat} {A : Around} (r : Room (k + 1) A) (env : Env) : Room k (A.deeper env) :=
  ⟨r.hd, by have := r.dp; show A.depth + 1 + 3 * k + 5 < _; omega, by have := r.un; show A.units + 3 + 16 * k + 200 < _; omega⟩
theorem Room.depth {k : Nat} {A : Around} (r : Room k A) : A.depth < recursionLimit := by have := r.dp; omega
theorem Room.units {k : Nat} {A : Around} (r : Room k A) : A.units + 64 < cLine := by have := r.un; omega
noncomputable def tNil : TA := fun _ H Q => Q [] H
noncomputable def tCons (ta : TE) (tr : TA) : TA := fun σ H Q => ta σ H fun x H1 => tr σ H1 fun xs H2 => Q (x :: xs) H2
section
variable {X : Cx} {e : Expr} {es : List Expr} {te : TE} {t : TA} {pos : Pos}
theorem pa_nil : PA X [] tNil := fun _ _ _ _ H Q I h => Calls.spliced_nil ⟨[], H, I, .nil, h⟩
theorem pa_cons (ha : PE X e te) (hr : PA X es t) (hs : starEach (e :: es) X.env = (false, eval e X.env) :: starEach es X.env := by rfl) : PA X (e :: es) (tCons te t) := by
  intro pos pins s σ H Q I h
  rw [hs]
  show wpAny _ _ (spliced ((false, eval e X.env) :: backTo pos (starEach es X.env))) _ _ s
  refine Calls.spliced_cons (thn (ha pins s σ H _ I h) fun u s1 ⟨x, H1, I1, r1, q1⟩ => ?_)
  exact thn (hr pos pins s1 σ H1 _ I1 q1) fun us s2 ⟨xs, H2, I2, r2, q2⟩ => ⟨x :: xs, H2, I2, .cons r1 r2, q2⟩
noncomputable def tTup (t : TA) : TE := fun σ H Q => t σ H fun xs H1 => xs.length ≤ sizeLine ∧ ∀ p, H1 p = none → Q (.ref p) (upd H1 p (.tup xs))
noncomputable def tLst (t : TA) : TE := fun σ H Q => t σ H fun xs H1 => xs.length ≤ sizeLine ∧ ∀ p, H1 p = none → Q (.ref p) (upd H1 p (.lst xs))
theorem pe_tup {x1} (h : PA X es t) : PE X (.Tuple es x1 pos) (tTup t) := by
  intro pins s σ H Q I hq
  refine wpAny_Tuple_spliced (thn (h pos pins s σ H _ I hq) fun us s1 ⟨xs, H1, I1, r, z, q⟩ => ⟨by rw [← r.length]; exact z, ?_⟩)
  have hf : H1 s1.heap.objs.size = none := I1.hok.fresh (Nat.le_refl _)
  refine ⟨.ref s1.heap.objs.size, upd H1 s1.heap.objs.size (.tup xs), I1.laid (t' := s1.toks) (fun b u e => Heap.get?_push_of_some _ e) (Nat.le_refl _) ?_, rfl, q _ hf⟩
  exact ⟨z, us, r, ⟨_, Heap.get?_push_size _ rfl, rfl, _, rfl⟩⟩
theorem pe_lst (h : PA X es t) : PE X (.List es pos) (tLst t) := by
  intro pins s σ H Q I hq
  refine wpAny_List_spliced (thn (h pos pins s σ H _ I hq) fun us s1 ⟨xs, H1, I1, r, z, q⟩ => ⟨by rw [← r.length]; exact z, ?_⟩)
  have hf : H1 s1.heap.objs.size = none := I1.hok.fresh (Nat.le_refl _)
  refine ⟨.ref s1.heap.objs.size, upd H1 s1.heap.objs.size (.lst xs), I1.laid (t' := s1.toks) (fun b u e => Heap.get?_push_of_some _ e) (Nat.le_refl _) ?_, rfl, q _ hf⟩
  exact ⟨z, us, 0, r, Heap.get?_push_size _ rfl⟩
end
noncomputable abbrev Sp := List V → Hp → VK → XK → Prop
noncomputable abbrev CXT := List Env → Hp → Shared → XK → Value → Shared → Prop
structure Env0 (P : Program) (w : World) (K : PySem.W.Frag) (mg : Str → Option Value) (base : Heap) (A : Around) (outer : List Env) (s : Shared) (H : Hp) : Prop where
  frames : A.frames = some outer
  mod : Mod K mg base
  bs : ∀ b o, base.get? b = some o → s.heap.get? b = some o ∧ H b = none
  bsz : base.objs.size ≤ s.heap.objs.size
  funs : s.heap.FunFrames base outer
  frf : ∀ b ∈ frs outer, H b = none
  hok : HOk P w H s.heap
  bare : AllBare s.gens
noncomputable def CE (outer : List Env) (P : Program) (w : World) (H : Hp) (s : Shared) (Q : VK) (u : Value) (s' : Shared) : Prop :=
  ∃ v H', s'.os = s.os ∧ AllBare s'.gens ∧ Un (frs outer) [] H H' s.heap s'.heap ∧ HOk P w H' s'.heap ∧ RelV v u ∧ Q v H'
noncomputable def CR (CX : CXT) (outer : List Env) (P : Program) (w : World) (H : Hp) (s : Shared) (Q : VK) (E : XK) (r : Result) (s' : Shared) : Prop :=
  match r with
  | .ok (.ret u) => CE outer P w H s Q u s'
  | .ok _ => False
  | .error e => CX outer H s E e s'
structure FnOk (P : Program) (w : World) (K : PySem.W.Frag) (mg : Str → Option Value) (base : Heap) (CX : CXT) (k : Nat) (f : Addr) (fd : FuncData) (ps : List Str) (sp : Sp) : Prop where
  len : ∀ vs H Q E, sp vs H Q E → vs.length = ps.length
  run : ∀ (A : Around) (outer : List Env) (s : Shared) (H : Hp) (args : Args) (us : List Value) (vs : List V) (Q : VK) (E : XK), Room k A → Env0 P w K mg base A outer s H → BindsTo s fd args (ps.zip us) → Vals vs us → sp vs H Q E →
    codeAny (model P w) A (.call (.ref f) args) (CR CX outer P w H s Q E) s
theorem FnOk.imp {P : Program} {w : World} {K : PySem.W.Frag} {mg : Str → Option Value} {base : Heap} {CX : CXT} {k : Nat} {f : Addr} {fd : FuncData} {ps : List Str} {sp sp' : Sp} (F : FnOk P w K mg base CX k f fd ps sp)
    (h : ∀ vs H Q E, sp' vs H Q E → sp vs H Q E) : FnOk P w K mg base CX k f fd ps sp' :=
  ⟨fun vs H Q E q => F.len vs H Q E (h _ _ _ _ q), fun A outer s H args us vs Q E hr he hb hv hs => F.run A outer s H args us vs Q E hr he hb hv (h _ _ _ _ hs)⟩
section
variable {X : Cx} {pins : List (Addr × Obj)} {σ : St} {H : Hp} {s s' : Shared}
theorem Inv.env0 (I : Inv X pins σ H s) : Env0 X.prog X.w X.K X.mg X.base X.A X.stack s H :=
  ⟨I.ok.frames, I.ok.mod, I.bs, Nat.le_trans I.ok.bsz I.sz, I.stack, I.stkFree, I.hok, I.bare⟩
theorem Inv.after {Q : VK} {u : Value} (I : Inv X pins σ H s) (h : CE X.stack X.prog X.w H s Q u s') : EP X pins σ Q u s' := by
  obtain ⟨v, H', os, bare, un, hok, r, q⟩ := h
  obtain ⟨hh, g, d, t, os'⟩ := s'
  obtain rfl : os' = s.os := os
  exact ⟨v, H', I.call (h' := hh) (g' := g) (d' := d) (t' := t) (ch := []) un hok bare (fun b z => absurd z (by simp)), r, q⟩
end
noncomputable def tCall (sp : Sp) (dvs : List V) (E : XK) (t : TA) : TE := fun σ H Q => t σ H fun vs H1 => sp (vs ++ dvs) H1 Q E
noncomputable def Binds (K : PySem.W.Frag) (fd : FuncData) (ps : List Str) (ds : List Value) : Prop :=
  ∀ (s : Shared) (us : List Value), K.In s.heap → (us ++ ds).length = ps.length → BindsTo s fd ⟨us, []⟩ (ps.zip (us ++ ds))
theorem Binds.all {K : PySem.W.Frag} {fd : FuncData} {ps : List Str} (h : ∀ us : List Value, us.length = ps.length → bindArgs fd ⟨us, []⟩ = pure (ps.zip us)) : Binds K fd ps [] := fun s us _ hl => by
  rw [List.append_nil] at hl ⊢
  exact .of_eq (h us hl)
noncomputable def Passes (CX : CXT) (X : Cx) (E : XK) : Prop := ∀ (pins : List (Addr × Obj)) (σ : St) (H : Hp) (s : Shared) (e : Value) (s' : Shared), Inv X pins σ H s → CX X.stack H s E e s' → X.xe e s'
section
variable {X : Cx} {CX : CXT} {k : Nat} {f C : Addr} {fd : FuncData} {ps : List Str} {sp : Sp} {dvs : List V} {ds : List Value} {E : XK} {x m : Str} {p pos apos : Pos} {e o : Expr} {es : List Expr} {ta : TE} {t : TA}
theorem run_fn {pins : List (Addr × Obj)} {σ : St} {H : Hp} {s : Shared} {Q : VK} {us : List Value} {vs : List V} (F : FnOk X.prog X.w X.K X.mg X.base CX k f fd ps sp) (hr : Room k X.A) (hb : Binds X.K fd ps ds) (hd : Vals dvs ds) (hx : Passes CX X E)
    (I : Inv X pins σ H s) (r : Vals vs us) (h : sp (vs ++ dvs) H Q E) : wpAny (model X.prog X.w) X.A (call (.ref f) us) (EP X pins σ Q) X.xe s := by
  have r2 : Vals (vs ++ dvs) (us ++ ds) := r.append hd
  have hl : (us ++ ds).length = ps.length := by rw [← r2.length]; exact F.len _ _ _ _ h
  refine wpAny_call (codeAny_mono (F.run X.A X.stack s H ⟨us, []⟩ (us ++ ds) (vs ++ dvs) Q E hr I.env0 (hb s us I.kIn hl) r2 h) fun r s' hq => ?_)
  cases r with
  | error e => exact hx pins σ H s e s' I hq
  | ok fl =>
    cases fl with
    | ret u => exact I.after hq
    | next => exact False.elim hq
    | brk => exact False.elim hq
    | cont => exact False.elim hq
theorem pe_call (F : FnOk X.prog X.w X.K X.mg X.base CX k f fd ps sp) (hr : Room k X.A) (hg : Gl X x) (hm : X.mg x = some (.ref f)) (hk : PySem.W.keepIn X.K (.ref f) = true) (hb : Binds X.K fd ps ds) (hd : Vals dvs ds) (hx : Passes CX X E)
    (ha : PA X (e :: es) t) (hdb : (x == ("__debug__" : Str)) = false := by decide) (he : starEach (e :: es) X.env = (false, eval e X.env) :: starEach es X.env := by rfl) (hpl : (backTo pos (starEach es X.env)).any (·.1) = false := by rfl) :
    PE X (.Call (.Name x p) (e :: es) [] pos) (tCall sp dvs E t) := by
  intro pins s σ H Q I h
  refine wpAny_Call_Name_kw (ld_glob I hg hm ?_ hdb)
  refine PySem.W.callWith_K (h₀ := X.base) I.ok.mod.kin hk (thn (ha pos pins s σ H _ I h) fun us s1 ⟨vs, H1, I1, r, q⟩ => ⟨I1.kIn, ?_⟩) he hpl
  exact run_fn F hr hb hd hx I1 r q
structure Mk (K : PySem.W.Frag) (C f : Addr) : Prop where
  makes : PySem.W.makesIn K C = true
  init : PySem.W.findIn K (.ref C) "__init__" = some (some (.ref f))
  fn : PySem.W.isFn K (.ref f) = true
  kp : PySem.W.keepIn K (.ref C) = true
end
section
variable {X : Cx} {CX : CXT} {k : Nat} {f C : Addr} {fd : FuncData} {ps ks : List Str} {sp : Sp} {E : XK} {x m : Str} {p pos apos kpos : Pos} {e o : Expr} {es : List Expr} {kws : List Keyword} {te ta : TE} {t tk : TA} {nm : Option Str}
structure KBinds (K : PySem.W.Frag) (fd : FuncData) (ps ks : List Str) (g : List Value → List Value → List Value) (gV : List V → List V → List V) : Prop where
  to : ∀ (s : Shared) (us ws : List Value), K.In s.heap → (g us ws).length = ps.length → BindsTo s fd ⟨us, ks.zip ws⟩ (ps.zip (g us ws))
  rel : ∀ {vs : List V} {us : List Value} {zs : List V} {ws : List Value}, Vals vs us → Vals zs ws → Vals (gV vs zs) (g us ws)
variable {g : List Value → List Value → List Value} {gV : List V → List V → List V}
end
structure FnScope (N P : List Str) (sc : Scope) : Prop where
  kind : sc.kind = .function
  co : sc.isCoroutine = false
  gen : sc.isGenerator = false
  nd : N.Nodup
  pre : N.take P.length = P
  par : ∀ x ∈ P, sc.names.lookup x = some .local ∨ sc.names.lookup x = some .cell
  nofree : ∀ y ∈ sc.names, y.2 ≠ .free
theorem bindL_out {kindOf : Str → Option NameKind} {x : Str} : ∀ {binds : List (Str × Value)} {m : Str → Option Value}, (∀ v, (x, v) ∉ binds) → bindL kindOf binds m x = m x
  | [], _, _ => rfl
  | (n, v) :: r, m, h => by
    unfold bindL
    rw [bindL_out fun w hw => h w (List.mem_cons_of_mem _ hw)]
    split
    · have : x ≠ n := by rintro rfl; exact h v List.mem_cons_self
      simp [this]
    · rfl
theorem bindC_out {kindOf : Str → Option NameKind} {x : Str} : ∀ {binds : List (Str × Value)} {m : Str → Option Value}, (∀ v, (x, v) ∉ binds) → bindC kindOf binds m x = m x
  | [], _, _ => rfl
  | (n, v) :: r, m, h => by
    unfold bindC
    rw [bindC_out fun w hw => h w (List.mem_cons_of_mem _ hw)]
    split
    · rfl
    · have : x ≠ n := by rintro rfl; exact h v List.mem_cons_self
      simp [this]
theorem bindL_get {kindOf : Str → Option NameKind} {x : Str} {v : Value} : ∀ {P : List Str} {vs : List Value} {i : Nat} {m : Str → Option Value}, P.Nodup → P[i]? = some x → vs[i]? = some v → kindOf x = some .local →
    bindL kindOf (P.zip vs) m x = some v
  | [], _, _, _, _, h, _, _ => by simp at h
  | _ :: _, [], _, _, _, _, h, _ => by simp at h
  | p :: P, w :: vs, 0, m, nd, h1, h2, hk => by
    simp at h1 h2; subst h1; subst h2
    show bindL kindOf ((p, w) :: P.zip vs) m p = _
    unfold bindL
    rw [bindL_out fun v hv => (List.nodup_cons.mp nd).1 (List.of_mem_zip hv).1, if_pos hk]
    simp
  | p :: P, w :: vs, i + 1, m, nd, h1, h2, hk => by
    show bindL kindOf ((p, w) :: P.zip vs) m x = _
    unfold bindL
    exact bindL_get (i := i) (List.nodup_cons.mp nd).2 (by simpa using h1) (by simpa using h2) hk
theorem bindC_get {kindOf : Str → Option NameKind} {x : Str} {v : Value} : ∀ {P : List Str} {vs : List Value} {i : Nat} {m : Str → Option Value}, P.Nodup → P[i]? = some x → vs[i]? = some v → kindOf x ≠ some .local →
    bindC kindOf (P.zip vs) m x = some v
  | [], _, _, _, _, h, _, _ => by simp at h
  | _ :: _, [], _, _, _, _, h, _ => by simp at h
  | p :: P, w :: vs, 0, m, nd, h1, h2, hk => by
    simp at h1 h2; subst h1; subst h2
    show bindC kindOf ((p, w) :: P.zip vs) m p = _
    unfold bindC
    rw [bindC_out fun v hv => (List.nodup_cons.mp nd).1 (List.of_mem_zip hv).1, if_neg hk]
    simp
  | p :: P, w :: vs, i + 1, m, nd, h1, h2, hk => by
    show bindC kindOf ((p, w) :: P.zip vs) m x = _
    unfold bindC
    exact bindC_get (i := i) (List.nodup_cons.mp nd).2 (by simpa using h1) (by simpa using h2) hk
noncomputable def start (N : List Str) (vs : List V) : St := vs.map some ++ List.replicate (N.length - vs.length) none
noncomputable def cxOf (CX : CXT) (P : Program) (w : World) (K : PySem.W.Frag) (mg : Str → Option Value) (base : Heap) (N : List Str) (qual : Str) (scope : Scope) (f : Addr) (cd : Value) (A : Around) (outer : List Env) (s : Shared) (H : Hp) (E : XK) : Cx where
  prog := P
  w := w
  K := K
  mg := mg
  base := base
  A := A.deeper (envOfC qual scope s.heap.objs.size f cd)
  N := N
  s₀ := s
  H₀ := H
  env := envOfC qual scope s.heap.objs.size f cd
  outer := outer
  stack := envOfC qual scope s.heap.objs.size f cd :: outer
  ex := []
  calm := true
  fn := fun _ => true
  pn := []
  xe := fun e s' => wpAny (model P w) (A.deeper (envOfC qual scope s.heap.objs.size f cd)) (leaving (envOfC qual scope s.heap.objs.size f cd) e) (fun _ s'' => CX outer H s E e s'') (fun e' s'' => CX outer H s E e' s'') s'
theorem cell_has {sc : Scope} {n : Nat} {x : Str} (h : sc.names.lookup x = some .cell) : ∃ c, (cellsFrom n sc.names []).lookup x = some c := by
  have q := PySem.W.cellsFrom_some sc.names n [] (.inl h)
  exact Option.isSome_iff_exists.mp q
theorem inv_start {CX : CXT} {P : Program} {w : World} {K : PySem.W.Frag} {mg : Str → Option Value} {base : Heap} {N ps : List Str} {qual : Str} {scope : Scope} {f : Addr} {cd : Value} {A : Around} {outer : List Env} {s s1 : Shared} {H : Hp} {E : XK} {us : List Value} {vs : List V}
    (S : FnScope N ps scope) (hd : A.handled = none) (e0 : Env0 P w K mg base A outer s H) (hl : vs.length = ps.length) (r : Vals vs us)
    (x : InCallC s s.heap.objs.size (bindL (envOfC qual scope s.heap.objs.size f cd).kindOf (ps.zip us) fun _ => none) (cellsFrom (s.heap.objs.size + 1) scope.names []) (bindC (envOfC qual scope s.heap.objs.size f cd).kindOf (ps.zip us) fun _ => none) s1) :
    Inv (cxOf CX P w K mg base N qual scope f cd A outer s H E) [] (start N vs) H s1 := by
  have hpl : ps.length ≤ N.length := by have := congrArg List.length S.pre; rw [List.length_take] at this; omega
  obtain ⟨h1, tk, rfl, hk⟩ := x.done
  have noA : ∀ b : Addr, b ∉ (cxOf CX P w K mg base N qual scope f cd A outer s H E).ex := fun b z => absurd (show b ∈ ([] : List Addr) from z) (by simp)
  refine ⟨⟨e0.mod, S.kind, rfl, rfl, Nat.le_refl _, fun y z c h1 h2 => ?_, fun y hy => ?_, fun y c _ h => ?_, fun _ => hd, Around.frames_deeper e0.frames, .inr ⟨rfl, rfl⟩, fun b z => absurd z (noA b), e0.bs, e0.bsz, fun b _ _ => noA b, fun b z => absurd z (noA b), e0.funs, e0.frf⟩,
    rfl, e0.bare, Un.kept hk, ⟨_, x.toInCall.ns, fun i y v h1 h2 h3 => ?_⟩, fun y c h => ⟨_, x.cell y c h⟩, e0.hok.fresh (Nat.le_refl _), fun y c h => ?_, fun p hp => absurd (show p ∈ ([] : List (Addr × Obj)) from hp) (by simp), e0.hok.kept hk, ?_⟩
  · exact name_of_addr x.apart (PySem.mem_of_lookup h1) (PySem.mem_of_lookup h2)
  · have hy : scope.names.lookup y = some .cell ∨ scope.names.lookup y = some .free := hy
    rcases hy with hy | hy
    · exact cell_has hy
    · exact absurd rfl (S.nofree _ (PySem.mem_of_lookup hy))
  · exact Nat.le_of_lt (x.above y c (PySem.mem_of_lookup h))
  · have hi : i < vs.length := by
      unfold start at h2
      by_cases hi : i < vs.length
      · exact hi
      · rw [List.getElem?_append_right (by simpa using hi)] at h2
        rw [List.getElem?_replicate] at h2
        split at h2 <;> cases h2
    have ha : vs[i]? = some v := by
      unfold start at h2
      rw [List.getElem?_append_left (by simpa using hi), List.getElem?_map] at h2
      cases e : vs[i]? with
      | none => rw [e] at h2; cases h2
      | some a => rw [e] at h2; cases h2; rfl
    obtain ⟨u, hu, rv⟩ := r.get ha
    have hp : ps[i]? = some y := by
      rw [← S.pre, List.getElem?_take_of_lt (by omega)]; exact h1
    have ndP : ps.Nodup := by rw [← S.pre]; exact S.nd.sublist (List.take_sublist _ _)
    refine ⟨u, rv, ?_⟩
    rcases S.par y (List.mem_of_getElem? hp) with k | k
    · exact .inl ⟨k, bindL_get ndP hp hu k⟩
    · obtain ⟨c, e⟩ := cell_has (n := s.heap.objs.size + 1) k
      refine .inr ⟨.inl k, c, e, ?_⟩
      have q := x.cell y c e
      rw [bindC_get ndP hp hu (by show scope.names.lookup y ≠ _; rw [k]; decide)] at q
      exact q
  · exact e0.hok.fresh (Nat.le_of_lt (x.above y c (PySem.mem_of_lookup h)))
  · unfold start
    show _ = N.length
    rw [List.length_append, List.length_map, List.length_replicate]
    omega
theorem fn_of {CX : CXT} {P : Program} {w : World} {K : PySem.W.Frag} {mg : Str → Option Value} {base : Heap} {k : Nat} {f : Addr} {name qual : Str} {params : Arguments} {body : List Stmt} {scope : Scope} {dV kV doc pm cdv ct oc : Value} {an od : Option Addr}
    {osl : Array (Option Value)} {N ps : List Str} {sp : Sp} (lk : K.lookup f = some ⟨oc, od, .func (PySem.W.fnOf name qual params body scope dV kV doc pm an cdv ct), osl⟩) (hcd : PySem.W.codeIn K cdv qual = true) (S : FnScope N ps scope)
    (len : ∀ vs H Q E, sp vs H Q E → vs.length = ps.length)
    (hbody : ∀ (A : Around) (outer : List Env) (s : Shared) (H : Hp) (vs : List V) (Q : VK) (E : XK), Room k (A.deeper (envOfC qual scope s.heap.objs.size f cdv)) → sp vs H Q E →
      ∃ t, PSs (cxOf CX P w K mg base N qual scope f cdv A outer s H E) body t ∧ t { nx := fun _ H' => Q .non H', rt := Q } (start N vs) H) :
    FnOk P w K mg base CX (k + 1) f (PySem.W.fnOf name qual params body scope dV kV doc pm an cdv ct) ps sp := by
  refine ⟨len, fun A outer s H args us vs Q E hr e0 hb r hsp => ?_⟩
  have hl := len _ _ _ _ hsp
  have KX : K.In s.heap := e0.mod.kin.keeps fun b o e => (e0.bs b o e).1
  have lim : s.heap.NoLimit := e0.mod.nolimit.keeps fun b o e => (e0.bs b o e).1
  have hkind : ∀ y ∈ ps.zip us, scope.names.lookup y.1 = some .local ∨ (scope.names.lookup y.1 = some .cell ∧ ((cellsFrom (s.heap.objs.size + 1) scope.names []).lookup y.1).isSome = true) := fun ⟨n, v⟩ hy => by
    rcases S.par n (List.of_mem_zip hy).1 with q | q
    · exact .inl q
    · exact .inr ⟨q, PySem.W.cellsFrom_some _ _ _ (.inl q)⟩
  refine codeAny_call_function hr.depth (KX _ _ lk) rfl S.co S.gen rfl (PySem.W.codeRec_of KX hcd) (hb _ _ _ _ ?_)
  refine wpAny_newFunctionEnv_cells S.kind hkind fun env he s1 x => ?_
  subst he
  refine ⟨lim.keeps x.toInCall.keep, codeAny_func ?_⟩
  obtain ⟨t, ht, hq⟩ := hbody A outer s H vs Q E (hr.deeper _) hsp
  have I : Inv (cxOf CX P w K mg base N qual scope f cdv A outer s H E) [] (start N vs) H s1 := inv_start S hr.hd e0 hl r x
  refine wpAny_mono (ht [] s1 (start N vs) H _ I hq) (fun fl s' hs => ?_) fun e s' hs => hs
  have fin : ∀ {σ' : St} {H' : Hp} {v : V} {u : Value}, Inv (cxOf CX P w K mg base N qual scope f cdv A outer s H E) [] σ' H' s' → RelV v u → Q v H' → CE outer P w H s Q u s' :=
    fun {σ' H' v u} J rv q => ⟨v, H', J.os, J.bare, J.base, J.hok, rv, q⟩
  cases fl with
  | ret u =>
    obtain ⟨v, σ', H', J, rv, q⟩ := hs
    exact fin J rv q
  | next =>
    obtain ⟨σ', H', J, q⟩ := hs
    exact fin (v := V.non) (u := Value.none) J rfl q
  | brk =>
    obtain ⟨_, _, _, q⟩ := hs
    exact False.elim q
  | cont =>
    obtain ⟨_, _, _, q⟩ := hs
    exact False.elim q
end L2
namespace L2
open PySem PySem.Spec PyProof.Rows
section
variable {X : Cx} {x : Str} {p pos : Pos} {e : Expr} {es : List Expr} {t : TA} {id T : String} {r : List V → Hp → VK → Prop}
noncomputable def tCB (r : List V → Hp → VK → Prop) (t : TA) : TE := fun σ H Q => t σ H fun vs H1 => r vs H1 Q
theorem pe_callB (hc : CallR X (.builtin id) r) (hg : Gl X x) (hm : X.mg x = none) (hv : bootBuiltins x = some (.builtin id)) (ha : PA X (e :: es) t) (hn : x ≠ "__name__" := by decide) (hdb : (x == ("__debug__" : Str)) = false := by decide)
    (he : starEach (e :: es) X.env = (false, eval e X.env) :: starEach es X.env := by rfl) (hpl : (backTo pos (starEach es X.env)).any (·.1) = false := by rfl) : PE X (.Call (.Name x p) (e :: es) [] pos) (tCB r t) := by
  intro pins s σ H Q I h
  refine wpAny_Call_Name_kw (ld_blt I hg hm hv ?_ hn hdb)
  exact PyProof.Rows.callWith_builtin1 (thn (ha pos pins s σ H _ I h) fun us s1 ⟨vs, H1, I1, r1, q1⟩ => hc pins s1 σ H1 vs us Q I1 r1 q1) he hpl
theorem pe_callTy (hc : CallR X (.type T) r) (hg : Gl X x) (hm : X.mg x = none) (hv : bootBuiltins x = some (.type T)) (ha : PA X (e :: es) t) (hn : x ≠ "__name__" := by decide) (hdb : (x == ("__debug__" : Str)) = false := by decide)
    (he : starEach (e :: es) X.env = (false, eval e X.env) :: starEach es X.env := by rfl) (hpl : (backTo pos (starEach es X.env)).any (·.1) = false := by rfl) : PE X (.Call (.Name x p) (e :: es) [] pos) (tCB r t) := by
  intro pins s σ H Q I h
  refine wpAny_Call_Name_kw (ld_blt I hg hm hv ?_ hn hdb)
  exact PyProof.Rows.callWith_type1 (thn (ha pos pins s σ H _ I h) fun us s1 ⟨vs, H1, I1, r1, q1⟩ => hc pins s1 σ H1 vs us Q I1 r1 q1) he hpl
end
end L2
namespace HT
open PySem PyProof.Rows
section
open PySem.SeqAt
open PySem.AutoSeq1 (wpAny_loadPart')
open PySem.MeetsSeq PySem.MeetsSeq2 PySem.MeetsSeq3
end
section
variable {prog : Program} {w : World} {A : Around} {E : Value → Shared → Prop} {s : Shared}
noncomputable def sIx (n d : Nat) : Option Int → Nat
  | none => d
  | some v => if v < 0 then (v + (n : Int)).toNat else min v.toNat n
theorem sIx_none (n d : Nat) : sIx n d none = d := rfl
theorem sIx_nat (n d k : Nat) : sIx n d (some (k : Int)) = min k n := by
  show (if (k : Int) < 0 then ((k : Int) + (n : Int)).toNat else min (k : Int).toNat n) = min k n
  rw [if_neg (by omega), Int.toNat_natCast]
end
end HT
namespace L2
open PySem PySem.Spec PyProof.Rows
noncomputable abbrev TO := St → Hp → (Option Int → Hp → Prop) → Prop
noncomputable def PO (X : Cx) (e : Option Expr) (t : TO) : Prop :=
  ∀ (pins : List (Addr × Obj)) (s : Shared) (σ : St) (H : Hp) (Q : Option Int → Hp → Prop), Inv X pins σ H s → t σ H Q →
    wpAny (model X.prog X.w) X.A (evalPart e X.env) (fun u s' => ∃ o H', Inv X pins σ H' s' ∧ IsPart u o ∧ Q o H') X.xe s
noncomputable def tNoPart : TO := fun _ H Q => Q none H
noncomputable def tPart (t : TE) : TO := fun σ H Q => t σ H fun x H1 => ∃ i, x = .int i ∧ Q (some i) H1
section
variable {X : Cx} {e : Expr} {te : TE} {lo hi : Option Expr} {tl th : TO} {pos p2 : Pos}
theorem po_none : PO X none tNoPart := by
  intro pins s σ H Q I h
  rw [evalPart_none]
  exact wpAny_pure ⟨none, H, I, .none, h⟩
theorem po_some (h : PE X e te) : PO X (some e) (tPart te) := by
  intro pins s σ H Q I hw
  rw [evalPart_some]
  refine thn (h pins s σ H _ I hw) fun u s1 ⟨x, H1, I1, r1, q1⟩ => ?_
  obtain ⟨i, rfl, q⟩ := q1
  obtain ⟨t, rfl⟩ := r1
  exact ⟨some i, H1, I1, .int i t, q⟩
noncomputable def SlR (X : Cx) (r : V → Option Int → Option Int → Hp → VK → Prop) : Prop :=
  ∀ (pins : List (Addr × Obj)) (s : Shared) (σ : St) (H : Hp) (x : V) (v vl vu : Value) (lo hi : Option Int) (sl : Addr) (Q : VK), Inv X pins σ H s → RelV x v → s.heap.IsSliceOf sl vl vu .none → IsPart vl lo → IsPart vu hi → r x lo hi H Q →
    ∃ T id, typeLookup (.type T) "__getitem__" = pure (some (.builtin id)) ∧ s.TypeIs v T ∧ wpAny (model X.prog X.w) X.A (getItem v (.ref sl)) (EP X pins σ Q) X.xe s
theorem SlR.or {r r' : V → Option Int → Option Int → Hp → VK → Prop} (h : SlR X r) (h' : SlR X r') : SlR X (fun x lo hi H Q => r x lo hi H Q ∨ r' x lo hi H Q) := by
  intro pins s σ H x v vl vu lo hi sl Q I rx hs pl pu q
  rcases q with q | q
  · exact h pins s σ H x v vl vu lo hi sl Q I rx hs pl pu q
  · exact h' pins s σ H x v vl vu lo hi sl Q I rx hs pl pu q
noncomputable def tSl (r : V → Option Int → Option Int → Hp → VK → Prop) (te : TE) (tl th : TO) : TE := fun σ H Q => te σ H fun x H1 => tl σ H1 fun l H2 => th σ H2 fun u H3 => r x l u H3 Q
theorem pe_slice {r : V → Option Int → Option Int → Hp → VK → Prop} (hr : SlR X r) (he : PE X e te) (hl : PO X lo tl) (hu : PO X hi th) : PE X (.Subscript e (.Slice lo hi none p2) pos) (tSl r te tl th) := by
  intro pins s σ H Q I h
  refine Subscript_ (thn (he pins s σ H _ I h) fun v s1 ⟨x, H1, I1, r1, q1⟩ => ?_)
  refine wpAny_Slice (thn (hl pins s1 σ H1 _ I1 q1) fun vl s2 ⟨l, H2, I2, pl, q2⟩ => thn (hu pins s2 σ H2 _ I2 q2) fun vu s3 ⟨u, H3, I3, pu, q3⟩ => ?_)
  rw [evalPart_none]
  refine wpAny_pure ?_
  have I4 : Inv X pins σ H3 { s3 with heap := s3.heap.push { cls := .type "slice", data := .fields #[vl, vu, .none] } } := I3.kept (t' := s3.toks) fun b ob q => Heap.get?_push_of_some _ q
  obtain ⟨T, id, hT, ht, hg⟩ := hr pins { s3 with heap := s3.heap.push { cls := .type "slice", data := .fields #[vl, vu, .none] } } σ H3 x v vl vu l u s3.heap.objs.size Q I4 r1 (Heap.IsSliceOf.new ..) pl pu q3
  show wpAny (model X.prog X.w) X.A (subscriptTail e (.Slice lo hi none p2) v (.ref s3.heap.objs.size)) (EP X pins σ Q) X.xe { s3 with heap := s3.heap.push { cls := .type "slice", data := .fields #[vl, vu, .none] } }
  exact tail_any (ops := [.ref s3.heap.objs.size, v]) ht hT hg (by with_unfolding_all rfl)
noncomputable def cutV (xs : List V) (lo hi : Option Int) : List V := (xs.drop (HT.sIx xs.length 0 lo)).take (HT.sIx xs.length xs.length hi - HT.sIx xs.length 0 lo)
theorem cutV_length (xs : List V) (lo hi : Option Int) : (cutV xs lo hi).length ≤ xs.length := by
  unfold cutV
  rw [List.length_take, List.length_drop]
  omega
end
end L2
namespace L2
open PySem PySem.Spec PyProof.Rows
noncomputable def ixN (n : Nat) (i : Int) : Option Nat := if 0 ≤ i then (if i < n then some i.toNat else none) else if -(n : Int) ≤ i then some (i + n).toNat else none
noncomputable def atI {α : Type} (xs : List α) (i : Int) : Option α := (ixN xs.length i).bind fun j => xs[j]?
theorem ixN_seq {n : Nat} {i : Int} {j : Nat} (h : ixN n i = some j) : seqIndex? i n = some j ∧ j < n ∧ -(n : Int) ≤ i ∧ i < n := by
  unfold ixN at h
  by_cases h0 : 0 ≤ i
  · rw [if_pos h0] at h
    by_cases h1 : i < n
    · rw [if_pos h1] at h
      have e : i.toNat = j := Option.some.inj h
      exact ⟨by rw [seqIndex_of h0 h1, e], by omega, by omega, h1⟩
    · rw [if_neg h1] at h; cases h
  · rw [if_neg h0] at h
    by_cases h1 : -(n : Int) ≤ i
    · rw [if_pos h1] at h
      have e : (i + n).toNat = j := Option.some.inj h
      exact ⟨by rw [seqIndex_neg (by omega) h1, e], by omega, h1, by omega⟩
    · rw [if_neg h1] at h; cases h
theorem atI_get {α : Type} {xs : List α} {i : Int} {v : α} (h : atI xs i = some v) : ∃ j, seqIndex? i xs.length = some j ∧ xs[j]? = some v ∧ j < xs.length ∧ -(xs.length : Int) ≤ i ∧ i < xs.length := by
  unfold atI at h
  cases e : ixN xs.length i with
  | none => rw [e] at h; cases h
  | some j =>
    rw [e] at h
    obtain ⟨h1, h2, h3, h4⟩ := ixN_seq e
    exact ⟨j, h1, h, h2, h3, h4⟩
theorem atI_nat {α : Type} {xs : List α} {j : Nat} {v : α} (h : xs[j]? = some v) : atI xs (j : Int) = some v := by
  have hj : j < xs.length := (List.getElem?_eq_some_iff.mp h).1
  have e : ixN xs.length (j : Int) = some j := by
    unfold ixN
    rw [if_pos (by omega), if_pos (by omega)]; simp
  unfold atI; rw [e]; exact h
noncomputable def PlainIx (b : Expr) : Prop := ∀ o i, subscripted b false o i = operate [o, i] (getItem o i)
noncomputable def IxR (X : Cx) (r : R2) : Prop :=
  ∀ (value slice : Expr) (pins : List (Addr × Obj)) (s : Shared) (σ : St) (H : Hp) (x y : V) (v u : Value) (Q : VK), Inv X pins σ H s → RelV x v → RelV y u → r x y H Q →
    subscripted slice false v u = operate [v, u] (getItem v u) → wpAny (model X.prog X.w) X.A (subscriptTail value slice v u) (EP X pins σ Q) X.xe s
noncomputable def MtR (X : Cx) (id : String) (r : V → List V → Hp → VK → Prop) : Prop :=
  ∀ (pins : List (Addr × Obj)) (s : Shared) (σ : St) (H : Hp) (x : V) (xs : List V) (v : Value) (us : List Value) (Q : VK), Inv X pins σ H s → RelV x v → Vals xs us → r x xs H Q →
    wpAny (model X.prog X.w) X.A (call (.builtin id) (v :: us)) (EP X pins σ Q) X.xe s
section
variable {X : Cx} {a b : Expr} {ta tb : TE} {pos : Pos}
theorem IxR.or {r r' : R2} (h : IxR X r) (h' : IxR X r') : IxR X (fun x y H Q => r x y H Q ∨ r' x y H Q) := by
  intro value slice pins s σ H x y v u Q I rx ry q hs
  rcases q with q | q
  · exact h value slice pins s σ H x y v u Q I rx ry q hs
  · exact h' value slice pins s σ H x y v u Q I rx ry q hs
theorem MtR.or {id : String} {r r' : V → List V → Hp → VK → Prop} (h : MtR X id r) (h' : MtR X id r') : MtR X id (fun x xs H Q => r x xs H Q ∨ r' x xs H Q) := by
  intro pins s σ H x xs v us Q I rx rs q
  rcases q with q | q
  · exact h pins s σ H x xs v us Q I rx rs q
  · exact h' pins s σ H x xs v us Q I rx rs q
theorem pe_ix {r : R2} (hr : IxR X r) (ha : PE X a ta) (hb : PE X b tb) (hs : PlainIx b) : PE X (.Subscript a b pos) (tOp r ta tb) := by
  intro pins s σ H Q I h
  exact Subscript_ (binT ha hb I h fun v u s2 x y H2 I2 rx ry q => hr a b pins s2 σ H2 x y v u Q I2 rx ry q (hs _ _))
noncomputable def rIxL (K : PySem.W.Frag) : R2 := fun x y H Q => ∃ p xs i v, x = .ref p ∧ y = .int i ∧ SqL K H p xs ∧ atI xs i = some v ∧ Q v H
noncomputable def rIxT (K : PySem.W.Frag) : R2 := fun x y H Q => ∃ p xs i v, x = .ref p ∧ y = .int i ∧ SqT K H p xs ∧ atI xs i = some v ∧ Q v H
theorem ix_list : IxR X (rIxL X.K) := by
  intro value slice pins s σ H x y v u Q I rx ry h hs
  obtain ⟨p, xs, i, z, rfl, rfl, hq, he, q⟩ := h
  cases rx
  obtain ⟨t, rfl⟩ := ry
  obtain ⟨its, r, pl, hz⟩ := I.list hq
  obtain ⟨j, h1, h2, h3, h4, h5⟩ := atI_get he
  obtain ⟨w, ew, rw'⟩ := r.get h2
  have hl := r.length
  have hn := line63
  have fin : EP X pins σ Q w s := ⟨z, H, I, rw', q⟩
  by_cases h0 : 0 ≤ i
  · have hj : i.toNat = j := by
      rw [seqIndex_of h0 h5] at h1
      exact Option.some.inj h1
    exact item_listR pl.isList h0 (by omega) (by rw [hj]; simpa using ew) fin hs
  · have hj : (i + (its.toArray.size : Int)).toNat = j := by
      rw [seqIndex_neg (by omega) h4] at h1
      rw [List.size_toArray, ← hl]
      exact Option.some.inj h1
    exact subscriptTail_builtinR (x := w) pl.isList.typeIs slot_list_getitem.lookup
      (wpAny_getItem_list_neg (Q := fun r s' => r = w ∧ EP X pins σ Q r s') pl.isList (by omega) (by rw [List.size_toArray] <;> omega) (by omega) (by rw [hj]; simpa using ew) ⟨rfl, fin⟩) hs
theorem ix_tup : IxR X (rIxT X.K) := by
  intro value slice pins s σ H x y v u Q I rx ry h hs
  obtain ⟨p, xs, i, z, rfl, rfl, hq, he, q⟩ := h
  cases rx
  obtain ⟨t, rfl⟩ := ry
  obtain ⟨its, r, pl, hz⟩ := I.tuple hq
  obtain ⟨j, h1, h2, h3, h4, h5⟩ := atI_get he
  obtain ⟨w, ew, rw'⟩ := r.get h2
  have hl := r.length
  have hn := line63
  have fin : EP X pins σ Q w s := ⟨z, H, I, rw', q⟩
  exact subscriptTail_builtinR (x := w) pl.typeIs slot_tuple_getitem.lookup
    (getItem_tuple (j := j) (Q := fun r s' => r = w ∧ EP X pins σ Q r s') pl (by omega) (by omega) (by rw [List.size_toArray, ← hl]; exact h1) (by simpa using ew) ⟨rfl, fin⟩) hs
theorem Inv.lst {pins : List (Addr × Obj)} {σ : St} {H : Hp} {s : Shared} {p : Addr} {xs : List V} (I : Inv X pins σ H s) (h : H p = some (.lst xs)) :
    ∃ (its : List Value) (n : Nat), Vals xs its ∧ s.heap.get? p = some { cls := .type "list", data := .seq its.toArray n } ∧ xs.length ≤ sizeLine := by
  obtain ⟨z, its, n, r, e⟩ := I.hok p _ h
  exact ⟨its, n, r, e, z⟩
theorem slice_bounds (lo hi : Option Int) (n : Nat) : (sliceBounds lo hi none n).1 = ((HT.sIx n 0 lo : Nat) : Int) ∧ (sliceBounds lo hi none n).2.1 = ((HT.sIx n n hi : Nat) : Int) ∧ (sliceBounds lo hi none n).2.2 = 1 := by
  refine ⟨?_, ?_, rfl⟩
  · cases lo with
    | none => simp [sliceBounds, HT.sIx]
    | some i =>
      simp only [sliceBounds, HT.sIx, Option.getD_none, show (1 : Int) > 0 by decide, if_true]
      by_cases h : i < 0
      · simp only [h, if_true] <;> omega
      · simp only [h, if_false] <;> omega
  · cases hi with
    | none => simp [sliceBounds, HT.sIx]
    | some i =>
      simp only [sliceBounds, HT.sIx, Option.getD_none, show (1 : Int) > 0 by decide, if_true]
      by_cases h : i < 0
      · simp only [h, if_true] <;> omega
      · simp only [h, if_false] <;> omega
theorem slicePick_cut (its : List Value) (lo hi : Option Int) : slicePick its.toArray lo hi none = ((its.drop (HT.sIx its.length 0 lo)).take (HT.sIx its.length its.length hi - HT.sIx its.length 0 lo)).toArray := by
  obtain ⟨h1, h2, h3⟩ := slice_bounds lo hi its.toArray.size
  unfold slicePick
  rw [h1, h2, h3]
  simp only [sliceRange_one, pick_run, List.size_toArray] <;> rfl
noncomputable def rSlL (K : PySem.W.Frag) : V → Option Int → Option Int → Hp → VK → Prop := fun x lo hi H Q => ∃ a xs, x = .ref a ∧ SqL K H a xs ∧ ∀ p, H p = none → Q (.ref p) (upd H p (.lst (cutV xs lo hi)))
theorem sl_list : SlR X (rSlL X.K) := by
  intro pins s σ H x v vl vu lo hi sl Q I rx hs pl pu h
  obtain ⟨a, xs, rfl, hx, q⟩ := h
  cases rx
  obtain ⟨its, r, ht, hz⟩ := I.list hx
  have hlen := r.length
  refine ⟨"list", _, slot_list_getitem.lookup, ht.isList.typeIs, ?_⟩
  refine wpAny_getItem_list_slice ht.isList hs pl pu .none (by simp) ?_ (by rw [List.size_toArray] <;> omega)
  rw [slicePick_cut, ← hlen]
  refine ⟨.ref s.heap.objs.size, _, I.laid (t' := s.toks) (o := .lst (cutV xs lo hi)) (fun b ob q => Heap.get?_push_of_some _ q) (Nat.le_refl _) ?_, rfl, q _ (I.hok.fresh (Nat.le_refl _))⟩
  exact ⟨Nat.le_trans (cutV_length xs lo hi) hz, _, 0, (r.drop (HT.sIx xs.length 0 lo)).take (HT.sIx xs.length xs.length hi - HT.sIx xs.length 0 lo), Heap.get?_push_size _ rfl⟩
theorem call_len_seq : CallR X (.builtin "len") (fun xs H Q => ∃ p ys, xs = [.ref p] ∧ (SqL X.K H p ys ∨ SqT X.K H p ys) ∧ Q (.int ys.length) H) := by
  intro pins s σ H xs us Q I r h
  obtain ⟨p, ys, rfl, hq, q⟩ := h
  obtain ⟨u, rfl, rx⟩ := vals1 r
  cases rx
  have hn := line63
  rcases hq with hq | hq
  · obtain ⟨its, r', pl, hz⟩ := I.list hq
    have hlen := r'.length
    exact Calls.call_len_list pl.isList (by simp only [List.size_toArray] <;> omega) ⟨.int ys.length, H, I.tok _, ⟨s.toks + 1, by rw [List.size_toArray, hlen]⟩, q⟩
  · obtain ⟨its, r', pl, hz⟩ := I.tuple hq
    have hlen := r'.length
    exact len_tuple pl (by simp only [List.size_toArray] <;> omega) ⟨.int ys.length, H, I.tok _, ⟨s.toks + 1, by rw [List.size_toArray, hlen]⟩, q⟩
theorem CallR.or {f : Value} {r r' : List V → Hp → VK → Prop} (h : CallR X f r) (h' : CallR X f r') : CallR X f (fun xs H Q => r xs H Q ∨ r' xs H Q) := by
  intro pins s σ H xs us Q I rs q
  rcases q with q | q
  · exact h pins s σ H xs us Q I rs q
  · exact h' pins s σ H xs us Q I rs q
theorem call_list_of : CallR X (.type "list") (fun xs H Q => ∃ p ys, xs = [.ref p] ∧ (SqL X.K H p ys ∨ SqT X.K H p ys) ∧ ∀ l, H l = none → Q (.ref l) (upd H l (.lst ys))) := by
  intro pins s σ H xs us Q I r h
  obtain ⟨p, ys, rfl, hq, q⟩ := h
  obtain ⟨u, rfl, rx⟩ := vals1 r
  cases rx
  have fin : ∀ (its : List Value), Vals ys its → ys.length ≤ sizeLine → ∀ (h' : Heap) (c' : Nat), (∀ b o', s.heap.get? b = some o' → h'.get? b = some o') →
      h'.get? s.heap.objs.size = some { cls := .type "list", dict := none, data := .seq its.toArray c', slots := #[] } → EP X pins σ Q (.ref s.heap.objs.size) { s with heap := h' } := fun its r' hz h' c' kp e =>
    ⟨.ref s.heap.objs.size, _, I.laid (t' := s.toks) kp (Nat.le_refl _) (show ObjOk X.prog X.w _ h' _ (.lst ys) from ⟨hz, its, c', r', e⟩), rfl, q _ (I.hok.fresh (Nat.le_refl _))⟩
  rcases hq with hq | hq
  · obtain ⟨its, r', pl, hz⟩ := I.list hq
    have hlen := r'.length
    obtain ⟨o, ho, hc, n, hd⟩ := pl.isList
    exact call_list_seq p (.inl rfl) ho hc hd (fun h' c' kp e => fin its r' hz h' c' kp e) (by simp only [List.size_toArray] <;> omega)
  · obtain ⟨its, r', pl, hz⟩ := I.tuple hq
    have hlen := r'.length
    obtain ⟨o, ho, hc, n, hd⟩ := pl
    exact call_list_seq p (.inr rfl) ho hc hd (fun h' c' kp e => fin its r' hz h' c' kp e) (by simp only [List.size_toArray] <;> omega)
noncomputable def tyV (K : PySem.W.Frag) (T : String) (x : V) (H : Hp) : Prop := match x with
  | .str _ => T = "str"
  | .int _ => T = "int"
  | .ref p => (T = "list" ∧ ∃ xs, SqL K H p xs) ∨ (T = "tuple" ∧ ∃ o, K.lookup p = some o ∧ o.cls = .type "tuple" ∧ o.dict = none) ∨
      (T = "dict" ∧ ((∃ kvs, H p = some (.dK kvs)) ∨ ∃ kvs, H p = some (.dT kvs))) ∨ (T = "set" ∧ ∃ S n, H p = some (.set S n))
  | _ => False
theorem tyV_is {pins : List (Addr × Obj)} {σ : St} {H : Hp} {s : Shared} {T : String} {x : V} {v : Value} (I : Inv X pins σ H s) (r : RelV x v) (ty : tyV X.K T x H) :
    s.TypeIs v T ∧ ∀ a, v = .ref a → ∃ ob, s.heap.get? a = some ob ∧ ob.dict = none := by
  cases x with
  | str z =>
    obtain ⟨t, rfl⟩ := r
    cases (show T = "str" from ty)
    exact ⟨typeIs_str s z t, fun _ e => nomatch e⟩
  | int i =>
    obtain ⟨t, rfl⟩ := r
    cases (show T = "int" from ty)
    exact ⟨typeIs_int s i t, fun _ e => nomatch e⟩
  | ref p =>
    cases r
    rcases ty with ⟨rfl, xs, hq⟩ | ⟨rfl, o, hk, hc, hd⟩ | ⟨rfl, hk⟩ | ⟨rfl, S, n, hk⟩
    · obtain ⟨its, _, pl, _⟩ := I.list hq
      refine ⟨pl.isList.typeIs, fun a e => ?_⟩
      cases e
      obtain ⟨o, n, e, c, hd, _⟩ := pl
      exact ⟨o, e, hd⟩
    · refine ⟨⟨o, I.kIn p o hk, hc⟩, fun a e => ?_⟩
      cases e
      exact ⟨o, I.kIn _ o hk, hd⟩
    · have z : ∃ o, s.heap.get? p = some o ∧ o.ExactDict := by
        rcases hk with ⟨kvs, hk⟩ | ⟨kvs, hk⟩
        · obtain ⟨_, _, _, _, o, _, _, e, ex, _⟩ := I.hok p _ hk
          exact ⟨o, e, ex⟩
        · obtain ⟨_, _, _, _, o, _, _, e, ex, _⟩ := I.hok p _ hk
          exact ⟨o, e, ex⟩
      obtain ⟨o, e, ex⟩ := z
      refine ⟨⟨o, e, ex.1⟩, fun a e2 => ?_⟩
      cases e2
      exact ⟨o, e, ex.2.1⟩
    · obtain ⟨o, _, _, _, e, ex, _⟩ := I.hok p _ hk
      refine ⟨⟨o, e, ex.1⟩, fun a e2 => ?_⟩
      cases e2
      exact ⟨o, e, ex.2.1⟩
  | _ => exact False.elim ty
noncomputable def tBM (K : PySem.W.Frag) (T : String) (r : V → List V → Hp → VK → Prop) (to : TE) (t : TA) : TE := fun σ H Q => to σ H fun x H1 => tyV K T x H1 ∧ t σ H1 fun xs H2 => r x xs H2 Q
variable {o e : Expr} {es : List Expr} {to : TE} {t : TA} {name : Str} {apos cpos : Pos} {T id : String} {r : V → List V → Hp → VK → Prop}
theorem pe_bm (pa : PlainAttrs T) (slot : Slot T name id) (hty : typeOf (.builtin id) = pure (.type "method_descriptor")) (hm : MtR X id r) (ho : PE X o to) (ha : PA X (e :: es) t)
    (hbase : attributeBase o name X.env (eval o X.env) = eval o X.env := by rfl)
    (hfew : ((backTo cpos (starEach (e :: es) X.env)).all (fun x => !x.1) && (backToKw cpos (keywordEach [] X.env)).all (fun x => x.1.isSome)
      && decide ((e :: es).length + ([] : List Keyword).length + (if ([] : List Keyword).isEmpty then 0 else 1) < 30)) = true := by rfl)
    (hline : (apos.endLine == cpos.line) = true := by rfl) (hs : starEach (e :: es) X.env = (false, eval e X.env) :: starEach es X.env := by rfl) (hplain : (backTo cpos (starEach es X.env)).any (·.1) = false := by rfl) :
    PE X (.Call (.Attribute o name apos) (e :: es) [] cpos) (tBM X.K T r to t) := by
  intro pins s σ H Q I h
  refine wpAny_Call_method_late hbase hfew hline rfl (thn (ho pins s σ H _ I h) fun v s1 ⟨x, H1, I1, r1, ty, q1⟩ => ?_)
  obtain ⟨h1, h2⟩ := tyV_is I1 r1 ty
  refine ⟨T, id, pa, slot, hty, h1, h2, ?_⟩
  have hA := ha cpos pins s1 σ H1 _ I1 q1
  rw [hs] at hA ⊢
  refine Calls.callWith_builtin (by show (false || (backTo cpos (starEach es X.env)).any (·.1)) = false; rw [hplain] <;> rfl) (Calls.evalArgs_plain ?_)
  exact thn hA fun us s2 ⟨vs, H2, I2, r2, q2⟩ => hm pins s2 σ H2 x vs v us Q I2 r1 r2 q2
end
end L2
namespace L2
open PySem PySem.Spec PyProof.Rows
noncomputable def MtM (X : Cx) (id : String) (r : V → List V → Hp → VK → Prop) : Prop :=
  ∀ (pins : List (Addr × Obj)) (s : Shared) (σ : St) (H : Hp) (x : V) (xs : List V) (v : Value) (us : List Value) (Q : VK), Inv X pins σ H s → RelV x v → Vals xs us → r x xs H Q →
    wpAny (model X.prog X.w) X.A (call (.builtin id) (v :: us)) (EP X pins σ Q) X.xe s
theorem Vals.one : ∀ {x : V} {us : List Value}, Vals [x] us → ∃ u, us = [u] ∧ RelV x u
  | _, _, .cons r .nil => ⟨_, rfl, r⟩
theorem Vals.two : ∀ {x y : V} {us : List Value}, Vals [x, y] us → ∃ u v, us = [u, v] ∧ RelV x u ∧ RelV y v
  | _, _, _, .cons r (.cons q .nil) => ⟨_, _, rfl, r, q⟩
theorem Vals.reverse {xs : List V} {us : List Value} (h : Vals xs us) : Vals xs.reverse us.reverse := by
  induction h with
  | nil => exact .nil
  | cons r t ih => rw [List.reverse_cons, List.reverse_cons]; exact Vals.append ih (.cons r .nil)
section
variable {X : Cx} {pins : List (Addr × Obj)} {σ : St} {H : Hp} {s : Shared} {l b : Addr} {xs ys zs : List V}
theorem Inv.lset {its its' : List Value} {n : Nat} {f : Array Value → Array Value} {t' : Nat} (I : Inv X pins σ H s) (hH : H l = some (.lst xs))
    (e : s.heap.get? l = some { cls := .type "list", data := .seq its.toArray n }) (hf : f its.toArray = its'.toArray) (hv : Vals ys its') (hz : ys.length ≤ sizeLine) :
    Inv X pins σ (upd H l (.lst ys)) { s with heap := s.heap.update l (Obj.mapSeq f), toks := t' } := by
  have q := PySem.IsL.update e f
  rw [hf] at q
  refine I.write (x := l) (e := l) (by rw [hH]; exact trivial) (.inl rfl) (fun b' u hb hu => (Heap.get?_update_other s.heap (Obj.mapSeq f) (Ne.symm hb)).trans hu) ⟨_, q⟩ ?_
  exact ⟨hz, its', _, hv, q⟩
theorem Inv.fresh (I : Inv X pins σ H s) : H s.heap.objs.size = none := I.hok.fresh (Nat.le_refl _)
theorem Inv.lstM (I : Inv X pins σ H s) (hH : H l = some (.lst xs)) : xs.length ≤ sizeLine ∧ ∃ (its : List Value) (n : Nat), Vals xs its ∧ xs.length = its.length ∧ s.heap.get? l = some { cls := .type "list", data := .seq its.toArray n } := by
  obtain ⟨z, its, n, r, e⟩ := I.hok l _ hH
  exact ⟨z, its, n, r, r.length, e⟩
end
section
variable {X : Cx}
noncomputable def rAppend : V → List V → Hp → VK → Prop := fun x vs H Q => ∃ l xs y, x = .ref l ∧ vs = [y] ∧ H l = some (.lst xs) ∧ xs.length < sizeLine ∧ Q .non (upd H l (.lst (xs ++ [y])))
theorem mt_append : MtM X "list.append" rAppend := by
  intro pins s σ H x vs v us Q I rx rv h
  obtain ⟨l, xs, y, rfl, rfl, hH, hz, q⟩ := h
  cases rx
  obtain ⟨u, rfl, ru⟩ := rv.one
  obtain ⟨z, its, n, r, hl, e⟩ := I.lstM hH
  refine call_meets F.slot_list_append ⟨_, e, rfl⟩ F.entry_list_append (F.args_list_append_2 _ _) (PySem.list_append l its.toArray n u (by rw [List.size_toArray]; omega)) ⟨e, ?_⟩
  refine ⟨.non, _, I.lset (its' := its ++ [u]) hH e (by simp) (r.append (.cons ru .nil)) ?_, rfl, q⟩
  rw [List.length_append, List.length_singleton]
  omega
end
section
variable {prog : Program} {w : World} {A : Around} {E : Value → Shared → Prop} {s : Shared}
set_option maxRecDepth 100000 in
end
section
variable {X : Cx}
end
end L2
namespace Att
open PySem PySem.W PySem.Calls PyProof.Rows
theorem ints_of_wellAll {P : Params} {h : Heap} : ∀ (ns : List Int) (vs : List Value), WellAll P h vs (ns.map WData.int) → IntsAre vs ns := by
  intro ns
  induction ns with
  | nil =>
    intro vs w
    rw [List.map_nil] at w
    cases w
    exact .nil
  | cons n ns ih =>
    intro vs w
    rw [List.map_cons] at w
    cases w with
    | cons a b =>
      cases a
      exact .cons _ _ (ih _ b)
theorem script_of {l : OpenLaw} {n : Nat} (hn : l.most = some n) {P : Params} {h : Heap} {args : List WData} {vals : List Value}
    (hpre : l.row.toRowW.claim.pre args = true) (hwl : WellAll P h vals args) :
    ∃ a vs ns, vals = [Value.ref a] ∧ args = [WData.list (ns.map WData.int)] ∧ h.get? a = some { cls := .type "list", data := .seq vs.toArray } ∧ IntsAre vs ns ∧ ns.length ≤ n := by
  have hsh : WShape.hasAll [] args [.list .int] = true := (pre_splitW hpre).1
  have hc : l.pre.holds [] { args := args } = true := (pre_splitW hpre).2
  obtain ⟨d, r, rfl, h1, h2⟩ := hasAllW_cons hsh
  obtain rfl := hasAllW_nil h2
  obtain ⟨xs, rfl, h3⟩ := hasW_list h1
  obtain ⟨ns, rfl⟩ := items_int h3
  have hlen : ns.length ≤ n := by
    unfold OpenLaw.pre at hc
    have h4 : (WTm.not (.lt (.lit (.int (n : Int))) (.len (.arg 0)))).holds [] { args := [.list (ns.map .int)] } = true := by
      have h4 := (holds_andW hc).1
      rw [hn] at h4
      exact h4
    have h5 := condW_of h4 (w_not (w_lt w_lit (w_len_list (w_arg rfl))))
    rw [List.length_map] at h5
    refine Nat.le_of_not_lt fun q => ?_
    have q' : (n : Int) < ((ns.length : Nat) : Int) := by omega
    first
      | (rw [decide_eq_true q'] at h5; exact absurd h5 (by decide))
      | (simp at h5; omega)
  cases hwl with
  | cons w1 w2 =>
    cases w2
    cases w1 with
    | list ho hall => exact ⟨_, _, ns, rfl, rfl, ho, ints_of_wellAll ns _ hall, hlen⟩
theorem post_true (l : OpenLaw) (args : List WData) : l.row.toRowW.claim.post args (.bool true) args = true :=
  postW_of (r := l.row.toRowW) (X := (true == true))
    (show WShape.has [] (.bool true) .bool = true by first | rfl | decide | simp [WShape.has, WShape.arms, WShape.armsAll])
    (show (WTm.eq .res (.lit (.bool true))).value [] { args := args, res := some (.bool true), after := args } = some (.bool (true == true)) from w_eq_bool (w_res rfl) w_lit) rfl
theorem attach_call {l : OpenLaw} {n : Nat} {q : Program} {loose : List Str} {XP : (Str → Option Value) → Heap → Prop} {YP : World → Heap → Prop} {d : DefRec}
    (hn : l.most = some n) (hdf : d.params.defaults = [])
    (call : ∀ (w : World) (s₀ s₁ : Shared) (mg mb : Str → Option Value) (fa : Addr) (o : Obj) (pm cd doc : Value) (a : Addr) (vs : List Value) (ns : List Int),
      Ground q loose [] XP w s₀ mg mb s₁.heap → YP w s₁.heap →
      s₁.heap.get? fa = some o → o.data = .func (docDef d.name d.params d.body d.scope pm cd doc) → s₁.heap.CodeRec cd d.name → mg d.name = some (.ref fa) →
      s₁.heap.get? a = some { cls := .type "list", data := .seq vs.toArray } → IntsAre vs ns → ns.length ≤ n → s₁.gens = #[] →
      codeAny (model l.prog w) callerA (.call (.ref fa) ⟨[.ref a], []⟩) (fun r s' => r = .ok (.ret (.bool true)) ∧ OldK s₁.heap s'.heap ∧ s'.os = s₁.os ∧ AllBare s'.gens) s₁) :
    WalkO q loose XP YP l.row.toRowW d [] (fun f vs => PySem.call f vs) := by
  intro w s₀ s₁ mg mb G Y fa o pm cd doc dV kV ho hd hcd hD hmg hg args vals as hpre hlay hrd hwl hlo
  obtain rfl : dV = .none := Dflts.none hD hdf
  obtain rfl : kV = .none := Dflts.noKw hD
  obtain ⟨a, vs, ns, rfl, rfl, hobj, hints, hlen⟩ := script_of hn hpre hwl
  refine enter_call (codeAny_mono (call w s₀ s₁ mg mb fa o pm cd doc a vs ns G Y ho (fd_plain hd) hcd hmg hobj hints hlen hg) fun r s' hq => ?_)
  obtain ⟨rfl, h2, h3, h4⟩ := hq
  exact ⟨.inl ⟨.bool true, .bool true, [], rfl, fun _ => rfl, .bool true, post_true l _, fun _ => ⟨List.Pairwise.nil, fun _ hm => (nomatch hm)⟩⟩, h2, h3, h4⟩
section
variable {prog : Program} {w : World} {A : Around} {E : Value → Shared → Prop} {s : Shared} {K : Frag}
noncomputable def ledger (h : Heap) (L d : Addr) : List (Addr × Obj) := (List.range h.objs.size).filterMap fun a => if a = L ∨ a = d then none else (h.get? a).map fun o => (a, o)
end
end Att
namespace L2
open PySem PySem.Spec PyProof.Rows
theorem vals_ints : ∀ {vs : List Value} {ns : List Int}, IntsAre vs ns → Vals (ns.map V.int) vs
  | _, _, .nil => .nil
  | _, _, .cons n t h => .cons ⟨t, rfl⟩ (vals_ints h)
noncomputable def Only (H : Hp) : Prop := ∀ b, H b = none ∨ ∃ o xs, H b = some (.frz o (.lst xs))
theorem law_call {P : Program} {w : World} {K : PySem.W.Frag} {mg mb : Str → Option Value} {CX : CXT} {k : Nat} {fa a : Addr} {fd : FuncData} {x : Str} {sp : Sp} {s₁ : Shared} {vs : List Value} {ns : List Int}
    (KX : K.In s₁.heap) (hns : s₁.heap.Ns mainGlobals mg) (hb : s₁.heap.Ns builtinsNs mb) (hbb : ∀ x : Str, x ≠ "__name__" → mb x = bootBuiltins x) (hlim : s₁.heap.NoLimit) (hg : s₁.gens = #[])
    (ha : s₁.heap.get? a = some { cls := .type "list", data := .seq vs.toArray }) (hi : IntsAre vs ns) (hl : ns.length ≤ sizeLine) (hr : Room k callerA)
    (F : ∀ base : Heap, K.In base → base.Ns mainGlobals mg → FnOk P w K mg base CX k fa fd [x] sp) (hbind : ∀ (s : Shared) (u : Value), BindsTo s fd ⟨[u], []⟩ [(x, u)])
    (hsp : ∀ H : Hp, Only H → SqL K H a (ns.map V.int) → sp [.ref a] H (fun v _ => v = .bl true) fun _ _ _ => False)
    (hCX : ∀ H e s', CX [] H s₁ (fun _ _ _ => False) e s' → False) :
    codeAny (model P w) callerA (.call (.ref fa) ⟨[.ref a], []⟩) (fun r s' => r = .ok (.ret (.bool true)) ∧ OldK s₁.heap s'.heap ∧ s'.os = s₁.os ∧ AllBare s'.gens) s₁ := by
  have rv := vals_ints hi
  have lenV := hi.length
  have core : ∀ H : Hp, Only H → SqL K H a (ns.map V.int) → HOk P w H s₁.heap → (∀ b, H b ≠ none → b = a) → (H a ≠ none → K.lookup a = none) →
      codeAny (model P w) callerA (.call (.ref fa) ⟨[.ref a], []⟩) (fun r s' => r = .ok (.ret (.bool true)) ∧ OldK s₁.heap s'.heap ∧ s'.os = s₁.os ∧ AllBare s'.gens) s₁ := by
    intro H hO hS hok hA hK
    have base_of : ∀ {b : Addr} {o : Obj}, s₁.heap.get? b = some o → H b = none → (hidT s₁.heap H).get? b = some o := fun e n => hidT_get e n
    have noA : ∀ {b : Addr} {o : Obj} {es : Array DictEntry} {ep : Nat}, s₁.heap.get? b = some o → o.data = .dict es ep → H b = none := fun {b o es ep} e d => by
      cases q : H b with
      | none => rfl
      | some u =>
        have e' : b = a := hA b (by rw [q]; simp)
        subst e'
        rw [ha] at e; cases e
        have d' : Data.seq vs.toArray _ = Data.dict es ep := d
        cases d'
    have nsK : ∀ {b : Addr} {m : Str → Option Value}, s₁.heap.Ns b m → (hidT s₁.heap H).Ns b m := fun {b m} ⟨o, es, ep, e, d, r⟩ => ⟨o, es, ep, base_of e (noA e d), d, r⟩
    have hKb : K.In (hidT s₁.heap H) := fun b o e => base_of (KX b o e) (by
      cases q : H b with
      | none => rfl
      | some u =>
        have e' : b = a := hA b (by rw [q]; simp)
        subst e'
        rw [hK (by rw [q]; simp)] at e; cases e)
    have hM : Mod K mg (hidT s₁.heap H) := ⟨hKb, nsK hns, ⟨mb, nsK hb, hbb⟩, let ⟨mc, h1, h2⟩ := hlim; ⟨mc, nsK h1, h2⟩⟩
    have e0 : Env0 P w K mg (hidT s₁.heap H) callerA [] s₁ H := ⟨rfl, hM, fun b o e => of_hidT e, Nat.le_of_eq (hidT_size _ _), trivial, fun b hb => absurd (show b ∈ ([] : List Addr) from hb) (by simp), hok, .of_eq hg⟩
    refine codeAny_mono ((F _ hKb (nsK hns)).run callerA [] s₁ H ⟨[.ref a], []⟩ [.ref a] [.ref a] _ _ hr e0 (hbind s₁ (.ref a)) (.cons rfl .nil) (hsp H hO hS)) fun r s' h => ?_
    cases r with
    | error e => exact (hCX H e s' h).elim
    | ok fl =>
      cases fl with
      | next => exact False.elim h
      | brk => exact False.elim h
      | cont => exact False.elim h
      | ret u =>
        obtain ⟨v, H', os, bare, un, hok', r', q⟩ := h
        have q' : v = .bl true := q
        subst q'
        obtain rfl : u = Value.bool true := r'
        refine ⟨rfl, OldK.of_keep fun b o e => ?_, os, bare⟩
        cases q : H b with
        | none => exact un.keep b o e q (by intro z; exact absurd (show b ∈ ([] : List Addr) from z) (by simp)) (by simp)
        | some u =>
          rcases hO b with z | ⟨ob, xs, z⟩
          · rw [q] at z; cases z
          · have z2 := un.frzs b ob _ z
            obtain ⟨e1, _⟩ := hok b _ z
            obtain ⟨e2, _⟩ := hok' b _ z2
            rw [e] at e1; cases e1
            exact e2
  cases hk : K.lookup a with
  | some o =>
    have e := KX a o hk
    rw [ha] at e
    cases e
    refine core (fun _ => none) (fun _ => .inl rfl) (.inr ⟨_, vs.toArray, _, hk, rfl, rfl, rfl, by rw [List.size_toArray, lenV]; exact hl, by simpa using rv⟩) (fun b u z => by have z' : (none : Option HO) = some u := z; cases z') (fun b z => absurd rfl z) fun z => absurd rfl z
  | none =>
    refine core (fun b => if b = a then some (.frz { cls := .type "list", data := .seq vs.toArray } (.lst (ns.map V.int))) else none) (fun b => ?_) (.inl (.inr ⟨{ cls := .type "list", data := .seq vs.toArray }, if_pos rfl⟩)) (fun b u z => ?_) (fun b z => ?_) fun _ => hk
    · by_cases hb : b = a
      · exact .inr ⟨_, _, if_pos hb⟩
      · exact .inl (if_neg hb)
    · by_cases hb : b = a
      · have z' := (if_pos hb).symm.trans z
        cases z'
        subst hb
        exact ⟨ha, by rw [List.length_map]; exact hl, vs, _, rv, ha⟩
      · have z' := (if_neg hb).symm.trans z
        cases z'
    · by_cases hb : b = a
      · exact hb
      · exact absurd (if_neg hb) z
end L2
namespace L2
open PySem PySem.Spec PyProof.Rows
noncomputable abbrev KOf {K : PySem.W.Frag} {h : Heap} (_ : K.In h) : PySem.W.Frag := K
theorem walk_of {l : PySem.W.OpenLaw} {n k : Nat} {q : Program} {loose : List Str} {XP : (Str → Option Value) → Heap → Prop} {YP : World → Heap → Prop} {d : DefRec} {K : Params → PySem.W.Frag} {CX : World → CXT} {sp : World → Sp} {x : Str}
    (hn : l.most = some n) (hn2 : n ≤ sizeLine) (hdf : d.params.defaults = []) (hr : Room k callerA)
    (hY : ∀ (w : World) (h : Heap), YP w h → (K w.params).In h)
    (F : ∀ (w : World) (mg : Str → Option Value) (fa : Addr) (h : Heap), (K w.params).In h → h.Ns mainGlobals mg → mg d.name = some (.ref fa) →
      ∃ fd : FuncData, (∀ (s : Shared) (u : Value), BindsTo s fd ⟨[u], []⟩ [(x, u)]) ∧
        ∀ base : Heap, (K w.params).In base → base.Ns mainGlobals mg → FnOk l.prog w (K w.params) mg base (CX w) k fa fd [x] (sp w))
    (hsp : ∀ (w : World) (H : Hp) (a : Addr) (ns : List Int), ns.length ≤ n → Only H → SqL (K w.params) H a (ns.map V.int) → sp w [.ref a] H (fun v _ => v = .bl true) fun _ _ _ => False)
    (hCX : ∀ (w : World) (H : Hp) (s : Shared) (e : Value) (s' : Shared), CX w [] H s (fun _ _ _ => False) e s' → False) :
    PySem.W.WalkO q loose XP YP l.row.toRowW d [] (fun f vs => PySem.call f vs) := by
  refine Att.attach_call hn hdf fun w s₀ s₁ mg mb fa o pm cd doc a vs ns G Y ho hd hcd hmg hobj hints hlen hg => ?_
  have KX := hY w _ Y
  obtain ⟨fd, hb, hF⟩ := F w mg fa _ KX G.T.g hmg
  exact law_call KX G.T.g G.T.b G.T.builtins G.T.nolimit hg hobj hints (Nat.le_trans hlen hn2) hr hF hb (fun H hO hS => hsp w H a ns hlen hO hS) fun H e s' => hCX w H s₁ e s'
end L2
namespace L2
open PySem PySem.Spec PyProof.Rows
noncomputable def defArgs (s : Stmt) : Arguments := match s with
  | .FunctionDef _ a _ _ _ _ _ _ _ _ => a
  | _ => { posonlyargs := [], args := [], vararg := none, kwonlyargs := [], kw_defaults := [], kwarg := none, defaults := [] }
noncomputable def defBody (s : Stmt) : List Stmt := match s with
  | .FunctionDef _ _ b _ _ _ _ _ _ _ => b
  | _ => []
noncomputable def defScope (s : Stmt) : Scope := match s with
  | .FunctionDef _ _ _ _ _ _ sc _ _ _ => sc
  | _ => { kind := .function, names := [], isGenerator := false, isCoroutine := false }
noncomputable abbrev CX0 : CXT := fun _ _ _ _ _ _ => False
noncomputable abbrev E0 : XK := fun _ _ _ => False
structure Fun (K : PySem.W.Frag) (x qual : Str) (st : Stmt) (f : Addr) (fd : FuncData) : Prop where
  ex : ∃ (oc : Value) (od : Option Addr) (kV doc pm : Value) (an : Option Addr) (cdv ct : Value) (osl : Array (Option Value)),
    fd = PySem.W.fnOf x qual (defArgs st) (defBody st) (defScope st) .none kV doc pm an cdv ct ∧ K.lookup f = some ⟨oc, od, .func fd, osl⟩ ∧ PySem.W.codeIn K cdv qual = true
  kp : PySem.W.keepIn K (.ref f) = true
section
variable {P : Program} {w : World} {K : PySem.W.Frag} {mg : Str → Option Value} {base : Heap}
theorem Fun.ok {x qual : Str} {st : Stmt} {f : Addr} {fd : FuncData} {N ps : List Str} {k : Nat} {sp : Sp} (F : Fun K x qual st f fd) (S : FnScope N ps (defScope st)) (len : ∀ vs H Q E, sp vs H Q E → vs.length = ps.length)
    (hbody : ∀ (cdv : Value) (A : Around) (outer : List Env) (s : Shared) (H : Hp) (vs : List V) (Q : VK) (E : XK), Room k (A.deeper (envOfC qual (defScope st) s.heap.objs.size f cdv)) → sp vs H Q E →
      ∃ t, PSs (cxOf CX0 P w K mg base N qual (defScope st) f cdv A outer s H E).nox (defBody st) t ∧ t { nx := fun _ H' => Q .non H', rt := Q } (start N vs) H) : FnOk P w K mg base CX0 (k + 1) f fd ps sp := by
  obtain ⟨oc, od, kV, doc, pm, an, cdv, ct, osl, rfl, lk, hcd⟩ := F.ex
  refine fn_of lk hcd S len fun A outer s H vs Q E hr hsp => ?_
  obtain ⟨t, h, q⟩ := hbody cdv A outer s H vs Q E hr hsp
  exact ⟨t, h.nox, q⟩
theorem Fun.binds {x qual : Str} {st : Stmt} {f : Addr} {fd : FuncData} {ps : List Str} (F : Fun K x qual st f fd)
    (h : ∀ (kV doc pm : Value) (an : Option Addr) (cdv ct : Value) (us : List Value), us.length = ps.length → bindArgs (PySem.W.fnOf x qual (defArgs st) (defBody st) (defScope st) .none kV doc pm an cdv ct) ⟨us, []⟩ = pure (ps.zip us)) : Binds K fd ps [] := by
  obtain ⟨oc, od, kV, doc, pm, an, cdv, ct, osl, rfl, lk, hcd⟩ := F.ex
  exact .all (h kV doc pm an cdv ct)
theorem fun_mk {x qual : Str} {st : Stmt} {f : Addr} {oc : Value} {od an : Option Addr} {osl : Array (Option Value)} {kV doc pm cdv ct : Value} (l : K.lookup f = some ⟨oc, od, .func (PySem.W.fnOf x qual (defArgs st) (defBody st) (defScope st) .none kV doc pm an cdv ct), osl⟩)
    (c : PySem.W.codeIn K cdv qual = true) (k : PySem.W.keepIn K (.ref f) = true) : Fun K x qual st f (PySem.W.fnOf x qual (defArgs st) (defBody st) (defScope st) .none kV doc pm an cdv ct) := ⟨⟨oc, od, kV, doc, pm, an, cdv, ct, osl, rfl, l, c⟩, k⟩
end
theorem small1000 {n : Nat} (h : n ≤ 1000) : n < sizeLine := Nat.lt_of_le_of_lt h (by decide)
section
variable {X : Cx}
theorem pv (i : Nat) {x : Str} {pos : Pos} (hN : X.N[i]? = some x := by rfl) (hv : Vis X.env.scope x := by first | exact Or.inl rfl | exact Or.inr (Or.inl rfl) | exact Or.inr (Or.inr rfl)) (hd : (x == ("__debug__" : Str)) = false := by decide)
    (hcd : (x == ("__classdict__" : Str)) = false := by decide) : PE X (.Name x pos) (tVar i) := pe_var hN hv hd hcd
end
theorem ite2 {c A B : Prop} [Decidable c] (h1 : c → A) (h2 : ¬ c → B) : if c then A else B := by
  by_cases h : c
  · rw [if_pos h]
    exact h1 h
  · rw [if_neg h]
    exact h2 h
noncomputable def Same (H H' : Hp) : Prop := ∀ b o, H b = some o → H' b = some o
theorem Same.refl (H : Hp) : Same H H := fun _ _ h => h
theorem Same.trans {H H1 H2 : Hp} (a : Same H H1) (b : Same H1 H2) : Same H H2 := fun c o h => b c o (a c o h)
theorem Same.free {H H' : Hp} (e : Same H H') {l : Addr} (h : H' l = Option.none) : H l = Option.none := by
  cases q : H l with
  | none => rfl
  | some o =>
    rw [e l o q] at h
    cases h
theorem Same.seq {K : PySem.W.Frag} {H H' : Hp} {a : Addr} {xs : List V} (e : Same H H') (h : SqL K H a xs) : SqL K H' a xs := by
  rcases h with (h | ⟨o, h⟩) | h
  · exact .inl (.inl (e _ _ h))
  · exact .inl (.inr ⟨o, e _ _ h⟩)
  · exact .inr h
end L2
set_option maxHeartbeats 4000000
namespace Lx
open PySem PySem.Spec PyProof.Rows L2
noncomputable def ExcAt (h₀ h : Heap) (H : Hp) (x : Addr) (C : Value) : Prop :=
  ∃ oe vs, h.get? x = some oe ∧ oe.cls = C ∧ oe.data = .fields vs ∧ H x = none ∧ h₀.get? x = none ∧
    (vs[1]? = some Value.none ∨ ∃ T oT ts, vs[1]? = some (Value.ref T) ∧ T ≠ x ∧ h.get? T = some oT ∧ oT.data = .fields ts ∧ ts[3]? = some Value.none ∧ H T = none ∧ h₀.get? T = none)
theorem ExcAt.older {h₀ h₁ h : Heap} {H : Hp} {x : Addr} {C : Value} (e : ExcAt h₁ h H x C) (k : ∀ b, h₁.get? b = none → h₀.get? b = none) : ExcAt h₀ h H x C := by
  obtain ⟨oe, vs, h1, h2, h3, h4, h5, h6⟩ := e
  refine ⟨oe, vs, h1, h2, h3, h4, k _ h5, ?_⟩
  rcases h6 with h6 | ⟨T, oT, ts, g1, g2, g3, g4, g5, g6, g7⟩
  · exact .inl h6
  · exact .inr ⟨T, oT, ts, g1, g2, g3, g4, g5, g6, k _ g7⟩
theorem obj_get {P : Program} {w : World} {H : Hp} {h : Heap} {a : Addr} {o : HO} (x : ObjOk P w H h a o) : ∃ u, h.get? a = some u := by
  cases o with
  | lst xs => obtain ⟨_, _, _, _, e⟩ := x; exact ⟨_, e⟩
  | tup xs => obtain ⟨_, _, _, p⟩ := x; obtain ⟨o, h1, _⟩ := p; exact ⟨o, h1⟩
  | dK kvs => obtain ⟨_, _, _, _, o, _, _, e, _⟩ := x; exact ⟨_, e⟩
  | dT kvs => obtain ⟨_, _, _, _, o, _, _, e, _⟩ := x; exact ⟨_, e⟩
  | set S n => obtain ⟨o, _, _, _, e, _⟩ := x; exact ⟨_, e⟩
  | ins C dx fs => obtain ⟨_, _, _, e, _⟩ := x; exact ⟨_, e⟩
  | own y => exact x
  | xd fs => obtain ⟨_, ⟨_, _, _, e, _⟩, _⟩ := x; exact ⟨_, e⟩
  | rng lo hi => obtain ⟨_, _, _, e⟩ := x; exact ⟨_, e⟩
  | frz ob u => obtain ⟨e, _⟩ := x; exact ⟨_, e⟩
  | tbl ps => exact ⟨_, (show h.get? a = some _ from x)⟩
  | met f y => exact ⟨_, (show h.get? a = some _ from x)⟩
  | ext φ => obtain ⟨_, e, _⟩ := x; exact e
theorem mem_frs {env : Env} {l : List Env} {a : Addr} (h : env ∈ l) (hf : env.frame = some a) : a ∈ frs l := List.mem_filterMap.mpr ⟨env, h, hf⟩
theorem noted_any {M : Model} {A : Around} {E : Value → Shared → Prop} {s : Shared} {base h₀ : Heap} {env : Env} {outer : List Env} {L x : Addr} {C : Value} {H : Hp} {Q : Unit → Shared → Prop}
    (hfr : A.frames = some (env :: outer)) (hl : s.heap.FunFrames base (env :: outer)) (hf : env.frame = some L) (hx : ExcAt h₀ s.heap H x C)
    (h0 : ∀ b o, h₀.get? b = some o → ∃ u, s.heap.get? b = some u) (hH : ∀ b o, H b = some o → ∃ u, s.heap.get? b = some u)
    (h : ∀ h', (∀ b o, s.heap.get? b = some o → (h₀.get? b ≠ none ∨ H b ≠ none) → b ∉ frs (env :: outer) → h'.get? b = some o) →
      (∀ b o, s.heap.get? b = some o → b ∈ frs (env :: outer) → ∃ sl, h'.get? b = some { o with slots := sl }) →
      ExcAt h₀ h' H x C → Q () { s with heap := h' }) :
    wpAny M A (noteFrame (.ref x) env) (fun _ s2 => wpAny M A (setFlight (.ref x) none) Q E s2) E s := by
  obtain ⟨oe, vs, he, hc, hd, hHx, h0x, htr⟩ := hx
  have go : ∀ (tr : List Addr) (hxt : x ∈ tr) (htr : ∀ b ∈ tr, H b = none ∧ h₀.get? b = none) (h' : Heap), Heap.Left (PySem.W.hideAll s.heap (tr ++ frs (env :: outer))) (env :: outer) x C s.heap h' → Q () { s with heap := h' } := by
    intro tr hxt htr h' hL
    obtain ⟨k1, k2, k3, k4⟩ := hL
    have kept : ∀ b o, s.heap.get? b = some o → (h₀.get? b ≠ none ∨ H b ≠ none) → b ∉ frs (env :: outer) → h'.get? b = some o := fun b o e hb hn => by
      refine k1 b o (PySem.W.hideAll_get _ e fun hm => ?_)
      rcases List.mem_append.mp hm with z | z
      · obtain ⟨z1, z2⟩ := htr b z
        rcases hb with q | q
        · exact q z2
        · exact q z1
      · exact hn z
    refine h h' kept (fun b o e hb => ?_) ?_
    · obtain ⟨_, o', e', nf⟩ := hl.mem hb
      rw [e] at e'; cases e'
      exact k4 b o e nf
    · obtain ⟨oe', vs', T, oT, ts, he', hc', hd', h1', hnT, hTe, hT, hdT, h3⟩ := k3
      have hTn : H T = none ∧ h₀.get? T = none := by
        by_cases hm : T ∈ tr ++ frs (env :: outer)
        · rcases List.mem_append.mp hm with z | z
          · exact htr T z
          · obtain ⟨_, o', e', nf⟩ := k2.mem z
            rw [hT] at e'; cases e'
            exact absurd hdT (nf ts)
        · have no : s.heap.get? T = none := by
            cases q : s.heap.get? T with
            | none => rfl
            | some o =>
              rw [PySem.W.hideAll_get _ q hm] at hnT; cases hnT
          refine ⟨?_, ?_⟩
          · cases q : H T with
            | none => rfl
            | some o =>
              obtain ⟨u, hu⟩ := hH T o q
              rw [no] at hu; cases hu
          · cases q : h₀.get? T with
            | none => rfl
            | some o =>
              obtain ⟨u, hu⟩ := h0 T o q
              rw [no] at hu; cases hu
      exact ⟨oe', vs', he', hc', hd', hHx, h0x, .inr ⟨T, oT, ts, h1', hTe, hT, hdT, h3, hTn.1, hTn.2⟩⟩
  have ff : ∀ tr : List Addr, s.heap.FunFrames (PySem.W.hideAll s.heap (tr ++ frs (env :: outer))) (env :: outer) := fun tr => PySem.W.funFrames_hide hl fun env' h1 a h2 => List.mem_append_right _ (mem_frs h1 h2)
  have stays : ∀ tr : List Addr, (PySem.W.hideAll s.heap (tr ++ frs (env :: outer))).StaysIn s.heap := fun tr b o q => PySem.W.of_hideAll _ q
  have hid : ∀ (tr : List Addr) (b : Addr), b ∈ tr → (PySem.W.hideAll s.heap (tr ++ frs (env :: outer))).get? b = none := fun tr b hb => PySem.W.hideAll_none _ (List.mem_append_left _ hb)
  rcases htr with h1 | ⟨Tr, oTr, tv, h1, hTx, hTr, hdTr, h3, hHT, h0T⟩
  · unfold noteFrame
    simp only [hf]
    refine wpAny_bind (wpAny_field (s := s) he hd h1 ?_)
    rw [if_neg (by decide : ¬ ((Value.none != Value.none) = true))]
    refine wpAny_newEntry hfr (ff [x]) hf he (stays [x]) (hid [x] x (by simp)) hd (Array.getElem?_eq_some_iff.mp h1).1 fun h' hL => go [x] (by simp) (fun b hb => ?_) h' (by rw [← hc]; exact hL)
    have e : b = x := by simpa using hb
    subst e
    exact ⟨hHx, h0x⟩
  · unfold noteFrame
    simp only [hf]
    refine wpAny_bind (wpAny_field (s := s) he hd h1 ?_)
    rw [if_pos (by simp : (Value.ref Tr != Value.none) = true)]
    refine wpAny_bind (wpAny_field (s := s) hTr hdTr h3 ?_)
    rw [if_neg (by simp [rawInt] : ¬ ((Value.none == rawInt L) = true))]
    refine wpAny_bind (wpAny_setField (s := s) hTr hdTr (Array.getElem?_eq_some_iff.mp h3).1 ?_)
    have oth : ∀ b, b ≠ Tr → (s.heap.update Tr (Obj.mapFields (·.setIfInBounds 3 Value.none))).get? b = s.heap.get? b := fun b nb => Heap.get?_update_other _ _ (Ne.symm nb)
    have nT : ∀ b u, s.heap.get? b = some u → (∀ vs, u.data ≠ .fields vs) → b ≠ Tr := fun b u q nf z => by
      rw [z, hTr] at q
      cases q
      exact nf tv hdTr
    refine wpAny_newEntry hfr ((ff [x, Tr]).of_keeps fun b u q nf => ⟨u, (oth b (nT b u q nf)).trans q, rfl⟩) hf ((oth x (Ne.symm hTx)).trans he) (fun b u q => (oth b fun z => ?_).trans (stays [x, Tr] b u q)) (hid [x, Tr] x (by simp)) hd (Array.getElem?_eq_some_iff.mp h1).1
      fun h' hL => go [x, Tr] (by simp) (fun b hb => ?_) h' ⟨hL.1, hL.2.1, by rw [← hc]; exact hL.2.2.1, fun b u q nf => hL.2.2.2 b u ((oth b (nT b u q nf)).trans q) nf⟩
    · rw [z, hid [x, Tr] Tr (by simp)] at q
      cases q
    · have e : b = x ∨ b = Tr := by simpa using hb
      rcases e with e | e
      · subst e; exact ⟨hHx, h0x⟩
      · subst e; exact ⟨hHT, h0T⟩
theorem leaving_any {M : Model} {A : Around} {E : Value → Shared → Prop} {s : Shared} {base h₀ : Heap} {env : Env} {outer : List Env} {L x : Addr} {C : Value} {H : Hp} {Q : Unit → Shared → Prop}
    (hfr : A.frames = some (env :: outer)) (hl : s.heap.FunFrames base (env :: outer)) (hf : env.frame = some L) (hx : ExcAt h₀ s.heap H x C)
    (h0 : ∀ b o, h₀.get? b = some o → ∃ u, s.heap.get? b = some u) (hH : ∀ b o, H b = some o → ∃ u, s.heap.get? b = some u)
    (h : ∀ h', (∀ b o, s.heap.get? b = some o → (h₀.get? b ≠ none ∨ H b ≠ none) → b ∉ frs (env :: outer) → h'.get? b = some o) →
      (∀ b o, s.heap.get? b = some o → b ∈ frs (env :: outer) → ∃ sl, h'.get? b = some { o with slots := sl }) →
      ExcAt h₀ h' H x C → Q () { s with heap := h' }) :
    wpAny M A (leaving env (.ref x)) Q E s := wpAny_bind (noted_any hfr hl hf hx h0 hH h)
noncomputable def CXE (P : Program) (w : World) : CXT := fun outer H s E e s' =>
  ∃ (x : Addr) (C : Value) (H' : Hp), e = .ref x ∧ s'.os = s.os ∧ AllBare s'.gens ∧ Un (frs outer) [] H H' s.heap s'.heap ∧ HOk P w H' s'.heap ∧ ExcAt s.heap s'.heap H' x C ∧ E C none H'
theorem passE0 {P : Program} {w : World} {X : Cx} : Passes (CXE P w) X E0 := fun _ _ _ _ _ _ _ ⟨_, _, _, _, _, _, _, _, _, h⟩ => h.elim
section
variable {P : Program} {w : World} {K : PySem.W.Frag} {mg : Str → Option Value} {base : Heap}
theorem left_ok {X : Cx} {pins : List (Addr × Obj)} {σ : L2.St} {H' : Hp} {s' : Shared} {h' h₁ : Heap} (I' : Inv X pins σ H' s')
    (k : ∀ b o, s'.heap.get? b = some o → (h₁.get? b ≠ none ∨ H' b ≠ none) → b ∉ frs X.stack → h'.get? b = some o) : HOk X.prog X.w H' h' := fun a o e =>
  (I'.hok a o e).stay (fun b u hb q => by
    have t : H' b ≠ none := by
      rcases hb with z | z
      · rw [z, e]; simp
      · rw [z]; simp
    exact k b u q (.inr t) fun hm => t (I'.stkFree b hm)) (fun _ q => q) fun _ _ q => q
theorem pass_own {N : List Str} {qual : Str} {scope : Scope} {f : Addr} {cdv : Value} {A : Around} {outer : List Env} {s₀ : Shared} {H₀ : Hp} {E : XK} :
    Passes (CXE P w) (cxOf (CXE P w) P w K mg base N qual scope f cdv A outer s₀ H₀ E) E := by
  intro pins σ H s e s' I hc
  obtain ⟨x, C, H', rfl, ho, hg, u, hok, hx, hE⟩ := hc
  have I' : Inv (cxOf (CXE P w) P w K mg base N qual scope f cdv A outer s₀ H₀ E) pins σ H' s' := I.call' ho u hok hg (fun b z => absurd z (by simp))
  have there : ∀ b o, s₀.heap.get? b = some o → ∃ o', s.heap.get? b = some o' := fun b o e => I.base.there b o e (by intro z; exact absurd (show b ∈ ([] : List Addr) from z) (by simp))
  show wpAny (model P w) _ (leaving _ (.ref x)) _ _ s'
  refine leaving_any (h₀ := s.heap) (H := H') (C := C) (base := base) I'.ok.frames I'.stack rfl hx (fun b o e => u.there b o e (by simp)) (fun b o e => obj_get (hok b o e)) fun h' kp sl hx' => ?_
  have noex : ∀ b : Addr, b ∉ (cxOf (CXE P w) P w K mg base N qual scope f cdv A outer s₀ H₀ E).ex := fun b z => absurd (show b ∈ ([] : List Addr) from z) (by simp)
  have neL : ∀ b o, s₀.heap.get? b = some o → b ∉ frs outer → b ∉ frs (envOfC qual scope s₀.heap.objs.size f cdv :: outer) := fun b o e hb hm => by
    rcases List.mem_cons.mp (I'.stkSub b hm) with z | z
    · exact absurd (z ▸ Heap.lt_size e) (Nat.not_lt.mpr I'.ok.above)
    · exact hb z
  refine ⟨x, C, H', rfl, I'.os, I'.bare, ⟨fun b o e n hb _ => ?_, fun b o e n hb _ => ?_, fun b o e n _ => I'.base.free b o e n (noex b), fun b o e _ => ?_, I'.base.tups, I'.base.frzs, I'.base.tbls⟩, left_ok I' kp, hx'.older (fun b q => ?_), hE⟩
  · obtain ⟨o', e'⟩ := there b o e
    exact kp b o (I'.base.keep b o e n hb (noex b)) (.inl (by rw [e']; simp)) (neL b o e hb)
  · obtain ⟨sl1, e1⟩ := I'.base.slot b o e n hb (noex b)
    obtain ⟨sl2, e2⟩ := sl b _ e1 (by
      obtain ⟨env, h1, h2⟩ := List.mem_filterMap.mp hb
      exact mem_frs (List.mem_cons_of_mem _ h1) h2)
    exact ⟨sl2, e2⟩
  · obtain ⟨o1, e1⟩ := I'.base.there b o e (noex b)
    by_cases hm : b ∈ frs (envOfC qual scope s₀.heap.objs.size f cdv :: outer)
    · obtain ⟨sl2, e2⟩ := sl b _ e1 hm
      exact ⟨_, e2⟩
    · obtain ⟨o', e'⟩ := there b o e
      exact ⟨_, kp b o1 e1 (.inl (by rw [e']; simp)) hm⟩
  · cases q2 : s₀.heap.get? b with
    | none => rfl
    | some o =>
      obtain ⟨o', e'⟩ := there b o q2
      rw [q] at e'; cases e'
theorem okE {x qual : Str} {st : Stmt} {f : Addr} {fd : FuncData} {N ps : List Str} {k : Nat} {sp : Sp} (F : Fun K x qual st f fd) (S : FnScope N ps (defScope st)) (len : ∀ vs H Q E, sp vs H Q E → vs.length = ps.length)
    (hbody : ∀ (cdv : Value) (A : Around) (outer : List Env) (s : Shared) (H : Hp) (vs : List V) (Q : VK) (E : XK), Room k (A.deeper (envOfC qual (defScope st) s.heap.objs.size f cdv)) → sp vs H Q E →
      ∃ t, PSs (cxOf (CXE P w) P w K mg base N qual (defScope st) f cdv A outer s H E) (defBody st) t ∧ t { nx := fun _ H' => Q .non H', rt := Q } (start N vs) H) : FnOk P w K mg base (CXE P w) (k + 1) f fd ps sp := by
  obtain ⟨oc, od, kV, doc, pm, an, cdv, ct, osl, rfl, lk, hcd⟩ := F.ex
  exact fn_of lk hcd S len fun A outer s H vs Q E hr hsp => hbody cdv A outer s H vs Q E hr hsp
end
end Lx
namespace Lx
open PySem PySem.Spec PyProof.Rows L2
noncomputable abbrev vMro : List Value := [.type "ValueError", .type "Exception", .type "BaseException", .type "object"]
theorem own_obj {K : PySem.W.Frag} {h : Heap} {C : Addr} {bmB : List Value} {newId : String} (KI : K.In h) (q : PySem.W.excIn K C bmB newId = true) :
    ∃ bm N nm qn bs hdct sn sub ab col dd k0 k1 k2 k3 k5 mN, h.get? C = some (excClassObj nm qn C N bs bm hdct sn sub ab col dd k0 k1 k2 k3 k5 newId) ∧ h.Ns N mN ∧ mN "__init__" = none ∧ OwnTail h bmB bm := by
  unfold PySem.W.excIn at q
  split at q
  · rename_i dct cdat slts hlook
    split at q
    · rename_i Cx bmx s0 s1 s2 s3 nw s5 hmr hsl
      simp only [Bool.and_eq_true, beq_iff_eq, Bool.not_eq_true'] at q
      obtain ⟨⟨⟨⟨⟨q1, q2⟩, q3⟩, q4⟩, q5⟩, q6⟩ := q
      subst q1; subst q2
      obtain ⟨f1, f2, f3, f4, f5, f6, f7, f8, f9, f10, f11⟩ := cdat
      dsimp only at hmr q3 q5 q6
      subst hmr; subst q3
      obtain ⟨sl⟩ := slts
      dsimp only at hsl
      subst hsl
      exact ⟨bmx, f4, f1, f5, f2, f6, f7, f8, f9, f10, dct, s0, s1, s2, s3, s5, _, KI _ _ hlook, .of_isNs (PySem.W.isNs_of_in KI q5), PySem.W.nsMap_none_of_in KI q5 q6, PySem.W.tail_of_in KI q4⟩
    · cases q
  · cases q
structure ExcCl (K : PySem.W.Frag) (mg : Str → Option Value) (x : Str) (C : Addr) : Prop where
  ex : PySem.W.excIn K C vMro "ValueError.__new__" = true
  mgx : mg x = some (.ref C)
noncomputable def tRaise (E : XK) (C : Addr) (t : TA) : TS := fun _ σ H => t σ H fun vs H1 => vs.length ≤ sizeLine ∧ E (.ref C) none H1
section
variable {X : Cx} {P : Program} {w : World} {E : XK} {x : Str} {C : Addr} {np cpos pos : Pos} {e : Expr} {es : List Expr} {t : TA}
theorem ps_raise (O : ExcCl X.K X.mg x C) (hh : X.A.handled = none) (hx : Passes (CXE X.prog X.w) X E) (hg : Gl X x) (ha : PA X (e :: es) t) (hd : (x == ("__debug__" : Str)) = false := by decide)
    (he : starEach (e :: es) X.env = (false, eval e X.env) :: starEach es X.env := by rfl) (hpl : (backTo cpos (starEach es X.env)).any (·.1) = false := by rfl) :
    PS X (.Raise (some (.Call (.Name x np) (e :: es) [] cpos)) none pos) (tRaise E C t) := by
  intro pins s σ H D I h
  obtain ⟨bm, N, nm, qn, bs, hdct, sn, sub, ab, col, dd, k0, k1, k2, k3, k5, mN, hC, hN, hni, T⟩ := own_obj I.ok.mod.kin O.ex
  refine wpAny_Raise_call_subU (C := C) (nm := nm) (q := qn) (N := N) (bs := bs) (bm := bm) (hdct := hdct) (sn := sn) (sub := sub) (ab := ab) (col := col) (dd := dd) (k0 := k0) (k1 := k1) (k2 := k2) (k3 := k3) (k5 := k5)
    PySem.F.excBase_ValueError (by decide +kernel) PySem.F.excBase_ValueError (mN := mN) (T.hasType PySem.F.excBase_ValueError.hasBase) hh (by rw [he]; show (false || (backTo cpos (starEach es X.env)).any (·.1)) = false; rw [hpl]; rfl) hni (ld_glob I hg O.mgx ⟨rfl, ?_⟩ hd)
  have ha1 := thn (ha cpos pins s σ H _ I h) (Q' := fun vs s₂ => vs.length ≤ sizeLine ∧ (∀ b o, X.base.get? b = some o → s₂.heap.get? b = some o) ∧ ∀ h' e, Heap.MadeExcOf s₂.heap h' e (.ref C) vs → X.xe (.ref e) { s₂ with heap := h' }) (fun us s2 ⟨vs, H1, I1, r, z, q⟩ => ⟨by rw [← r.length]; exact z, I1.bk, fun h' e M => ?_⟩)
  · rw [he] at ha1 ⊢
    exact Calls.evalArgs_plain (wpAny_mono ha1 (fun vs s₂ h₂ => ⟨rfl, h₂.1, h₂.2.1 _ _ hC, hN.keeps h₂.2.1, T.keeps h₂.2.1, h₂.2.2⟩) fun _ _ y => y)
  · refine hx pins σ H1 s2 (.ref e) _ I1 ⟨e, .ref C, H1, rfl, rfl, I1.bare, Un.kept M.keeps, I1.hok.kept M.keeps, ?_, q⟩
    obtain ⟨tt, t1, t2, t3⟩ := M.there
    refine ⟨_, _, t1, rfl, rfl, ?_, M.new, .inl rfl⟩
    cases z : H1 e with
    | none => rfl
    | some o =>
      obtain ⟨u, hu⟩ := obj_get (I1.hok e o z)
      rw [M.new] at hu; cases hu
end
noncomputable abbrev XS := L2.St → XK
noncomputable abbrev TSX := Ends → XS → L2.St → Hp → Prop
section
variable {X : Cx} {st : Stmt} {rest : List Stmt} {t u : TSX} {pos : Pos}
variable {k : Nat} {f : Addr} {fd : FuncData} {ps : List Str} {sp : Sp} {x : Str} {p : Pos} {e : Expr} {es : List Expr} {ta : TA}
end
end Lx
namespace Lx
open PySem PySem.Spec PyProof.Rows L2
section
variable {X : Cx} {pins : List (Addr × Obj)} {σ : L2.St} {H : Hp} {s : Shared} {x : Addr}
structure Old (X : Cx) (pins : List (Addr × Obj)) (h₁ : Heap) : Prop where
  s0 : ∀ b o, X.s₀.heap.get? b = some o → b ∉ X.ex → ∃ u, h₁.get? b = some u
  lo : ∃ u, h₁.get? X.env.locals = some u
  pn : ∀ p ∈ X.pn ++ pins, ∃ u, h₁.get? p.1 = some u
  ce : ∀ x c, X.env.cells.lookup x = some c → ∃ u, h₁.get? c = some u
end
section
variable {X : Cx}
end
end Lx
namespace Lx
open PySem PySem.Spec PyProof.Rows L2
theorem bits_lt {i : Int} {n : Nat} (h : i.natAbs < 2 ^ n) : Builtin.Int.intBits i ≤ n := by
  unfold Builtin.Int.intBits
  split
  · exact Nat.zero_le _
  · rcases Nat.eq_zero_or_pos i.natAbs with h0 | hp
    · rename_i hne
      exact absurd (Int.natAbs_eq_zero.mp h0) (by simpa using hne)
    · have := (Nat.log2_lt (Nat.ne_of_gt hp)).mpr h
      omega
noncomputable def Wee (i : Int) : Prop := i.natAbs < 2 ^ 8000
theorem Wee.bits {i : Int} (h : Wee i) : Builtin.Int.intBits i ≤ 8000 := bits_lt h
theorem mulOk {i j : Int} (hi : Wee i) (hj : Wee j) : IntMulOk i j := IntMulOk.of_le hi.bits hj.bits (by decide)
theorem mulOkBig {i j : Int} (hi : Builtin.Int.intBits i ≤ 10000000) (hj : Wee j) : IntMulOk i j := IntMulOk.of_le hi hj.bits (by decide)
theorem wee_log {i : Int} (h : Wee i) : i.natAbs.log2 < 9000 := by
  rcases Nat.eq_zero_or_pos i.natAbs with h0 | hp
  · rw [h0]; decide
  · have := (Nat.log2_lt (Nat.ne_of_gt hp)).mpr h
    omega
noncomputable def CMulB (i j : Int) : Prop := IntMulOk i j
noncomputable def CDivB (i j : Int) : Prop := 0 < j ∧ Wee j
noncomputable def CDivW (i j : Int) : Prop := j ≠ 0 ∧ Wee j
section
variable {X : Cx}
theorem op_mulB : OpR X (binaryOp .Mult) (rI CMulB fun i j => .int (i * j)) := opI fun _ _ _ _ _ _ _ hc q => mul_int q hc
theorem op_fdivW : OpR X (binaryOp .FloorDiv) (rI CDivW fun i j => .int (i.fdiv j)) := opI fun _ _ _ _ _ _ _ hc q => floordiv_int hc.1 q (.inl (PyProof.noPylong_of_log2 (wee_log hc.2)))
theorem op_fdivB : OpR X (binaryOp .FloorDiv) (rI CDivB fun i j => .int (i / j)) := opI fun i j _ _ _ _ _ hc q => by
  have h0 : (0 : Int) < j := hc.1
  refine floordiv_int (Int.ne_of_gt h0) ?_ (.inl (PyProof.noPylong_of_log2 (wee_log hc.2)))
  rw [Int.fdiv_eq_ediv_of_nonneg _ (Int.le_of_lt h0)]
  exact q
end
theorem bits_of_lay {ns : List Int} (h : PySem.W.WData.layableAll [PySem.W.WData.list (ns.map PySem.W.WData.int)] = true) : ∀ v ∈ ns, Builtin.Int.intBits v ≤ 1048576 := fun v hv => by
  have h1 := PySem.W.layableW_arg h _ (List.mem_singleton.mpr rfl)
  have h2 := PySem.W.layableW_item h1 (PySem.W.WData.int v) (List.mem_map.mpr ⟨v, hv, rfl⟩)
  obtain ⟨_, _, h3⟩ := PySem.W.layableW_iff.mp h2
  have e : (2 : Nat) ^ 20 = 1048576 := by decide
  rw [e] at h3
  simpa only [PySem.W.WData.weight, Builtin.Int.intBits] using h3
end Lx
namespace Att
open PySem PySem.W PySem.Calls PyProof.Rows
theorem attachB {l : OpenLaw} {n : Nat} {q : Program} {loose : List Str} {XP : (Str → Option Value) → Heap → Prop} {YP : World → Heap → Prop} {d : DefRec}
    (hn : l.most = some n) (hdf : d.params.defaults = [])
    (call : ∀ (w : World) (s₀ s₁ : Shared) (mg mb : Str → Option Value) (fa : Addr) (o : Obj) (pm cd doc : Value) (a : Addr) (vs : List Value) (ns : List Int),
      Ground q loose [] XP w s₀ mg mb s₁.heap → YP w s₁.heap →
      s₁.heap.get? fa = some o → o.data = .func (docDef d.name d.params d.body d.scope pm cd doc) → s₁.heap.CodeRec cd d.name → mg d.name = some (.ref fa) →
      s₁.heap.get? a = some { cls := .type "list", data := .seq vs.toArray } → IntsAre vs ns → ns.length ≤ n → (∀ v ∈ ns, Builtin.Int.intBits v ≤ 1048576) → s₁.gens = #[] →
      codeAny (model l.prog w) callerA (.call (.ref fa) ⟨[.ref a], []⟩) (fun r s' => r = .ok (.ret (.bool true)) ∧ OldK s₁.heap s'.heap ∧ s'.os = s₁.os ∧ AllBare s'.gens) s₁) :
    WalkO q loose XP YP l.row.toRowW d [] (fun f vs => PySem.call f vs) := by
  intro w s₀ s₁ mg mb G Y fa o pm cd doc dV kV ho hd hcd hD hmg hg args vals as hpre hlay hrd hwl hlo
  obtain rfl : dV = .none := Dflts.none hD hdf
  obtain rfl : kV = .none := Dflts.noKw hD
  obtain ⟨a, vs, ns, rfl, rfl, hobj, hints, hlen⟩ := script_of hn hpre hwl
  refine enter_call (codeAny_mono (call w s₀ s₁ mg mb fa o pm cd doc a vs ns G Y ho (fd_plain hd) hcd hmg hobj hints hlen (Lx.bits_of_lay hlay) hg) fun r s' hq => ?_)
  obtain ⟨rfl, h2, h3, h4⟩ := hq
  exact ⟨.inl ⟨.bool true, .bool true, [], rfl, fun _ => rfl, .bool true, post_true l _, fun _ => ⟨List.Pairwise.nil, fun _ hm => (nomatch hm)⟩⟩, h2, h3, h4⟩
end Att
namespace Lx
open PySem PySem.Spec PyProof.Rows L2
noncomputable def spLaw (K : PySem.W.Frag) : Sp := fun vs H Q _ => ∃ (a : Addr) (ns : List Int), vs = [.ref a] ∧ SqL K H a (ns.map V.int) ∧ ns.length ≤ 63 ∧ (∀ v ∈ ns, Builtin.Int.intBits v ≤ 1048576) ∧ Only H ∧ ∀ H', Q (.bl true) H'
theorem walkB {l : PySem.W.OpenLaw} {k : Nat} {q : Program} {loose : List Str} {XP : (Str → Option Value) → Heap → Prop} {YP : World → Heap → Prop} {d : DefRec} {K : Params → PySem.W.Frag}
    (hn : l.most = some 63) (hdf : d.params.defaults = []) (hr : Room k callerA)
    (hY : ∀ (w : World) (h : Heap), YP w h → (K w.params).In h)
    (F : ∀ (w : World) (mg : Str → Option Value) (fa : Addr) (h : Heap), (K w.params).In h → h.Ns mainGlobals mg → mg d.name = some (.ref fa) →
      ∃ fd : FuncData, (∀ (s : Shared) (u : Value), BindsTo s fd ⟨[u], []⟩ [("script", u)]) ∧
        ∀ base : Heap, (K w.params).In base → base.Ns mainGlobals mg → FnOk l.prog w (K w.params) mg base (CXE l.prog w) k fa fd ["script"] (spLaw (K w.params))) :
    PySem.W.WalkO q loose XP YP l.row.toRowW d [] (fun f vs => PySem.call f vs) := by
  refine Att.attachB hn hdf fun w s₀ s₁ mg mb fa o pm cd doc a vs ns G Y ho hd hcd hmg hobj hints hlen hbits hg => ?_
  have KX := hY w _ Y
  obtain ⟨fd, hb, hF⟩ := F w mg fa _ KX G.T.g hmg
  exact law_call KX G.T.g G.T.b G.T.builtins G.T.nolimit hg hobj hints (Nat.le_trans hlen (by decide)) hr hF hb (fun H hO hS => ⟨a, ns, rfl, hS, hlen, hbits, hO, fun _ => rfl⟩) fun H e s' ⟨_, _, _, _, _, _, _, _, _, h⟩ => h
end Lx
namespace Lx
open PySem PySem.Spec PyProof.Rows L2
section
variable {X : Cx} {tg : Expr}
end
end Lx
namespace Lx
open PySem PySem.Spec PyProof.Rows L2
section
variable {prog : Program} {w : World} {A : Around} {R : Result → Shared → Prop} {s : Shared}
theorem lc_loop {elt target iter : Expr} {ifs : List Expr} {scope : Scope} {pos : Pos} {it acc : Value} {cenv : Env} (J : Nat → Shared → Prop)
    (turn : ∀ n s, J n s → ∀ E' : Value → Shared → Prop, wpAny (model prog w) A (pyNext it) (fun r sa => match r with
      | none => R (.ok .next) sa
      | some v => wpAny (model prog w) A (letOwnedTupleGo target it v) (fun _ sb => wpAny (model prog w) A (assign target cenv v) (fun _ sc =>
          wpAny (model prog w) A (forIn ifs true fun c r => if r = true then do let ok ← isTrue c cenv (eval c cenv); pure (ForInStep.yield ok) else pure (ForInStep.yield r)) (fun ok sd =>
            if ok = true then wpAny (model prog w) A (eval elt cenv) (fun x se =>
              wpAny (model prog w) A (call (.builtin "list.append") [acc, x]) (fun _ sf => ∃ m, m < n ∧ J m sf) E' se) E' sd
            else ∃ m, m < n ∧ J m sd) E' sc) E' sb) E' sa) E' s)
    (n : Nat) (h : J n s) : codeAny (model prog w) A (.compLoop (.ListComp elt [⟨target, iter, ifs, 0⟩] scope pos) 0 it acc cenv) R s := by
  refine codeAny_loop rfl J (fun k sk hJ => ?_) n h
  show wpAny _ A ((compTurn (.ListComp elt [⟨target, iter, ifs, 0⟩] scope pos) 0 it acc cenv).onRaise (fun y => do noteFrame y cenv; theTreesLotGoes y)) _ _ sk
  refine wpAny_noted ?_
  rw [compTurn_list]
  refine wpAny_bind (wpAny_standAt (wpAny_bind (wpAny_mono (turn k sk hJ _) (fun r sa ha => ?_) fun _ _ z => z)))
  cases r with
  | none => exact wpAny_pure ha
  | some v =>
    refine wpAny_bind (wpAny_mono ha (fun _ sb hb => wpAny_bind (wpAny_mono hb (fun _ sc hc => wpAny_bind (wpAny_mono hc (fun ok sd hd => ?_) fun _ _ z => z)) fun _ _ z => z)) fun _ _ z => z)
    cases ok with
    | false => exact wpAny_pure ⟨rfl, hd⟩
    | true => exact wpAny_bind (wpAny_bind (wpAny_mono hd (fun x se he => wpAny_bind (wpAny_mono he (fun _ sf hf => wpAny_pure (wpAny_pure ⟨rfl, hf⟩)) fun _ _ z => z)) fun _ _ z => z))
end
noncomputable def lcCx (X : Cx) (scope : Scope) (cl : List (Str × Addr)) (NC : List Str) (C : Addr) (s₀ : Shared) (H₀ : Hp) (fp : List Addr) : Cx where
  prog := X.prog
  w := X.w
  K := X.K
  mg := X.mg
  base := X.base
  A := X.A
  N := NC
  s₀ := s₀
  H₀ := H₀
  env := compEnvC scope cl C X.env
  outer := X.stack
  stack := X.stack
  ex := fp
  fn := fun _ => false
  calm := X.calm
  pn := []
  xe := fun _ _ => False
noncomputable def CapsOk (X : Cx) (scope : Scope) (cl : List (Str × Addr)) : List (Option Nat) → List Str → Prop
  | [], [] => True
  | none :: cs, _ :: ns => CapsOk X scope cl cs ns
  | some i :: cs, y :: ns => (∃ c, X.N[i]? = some y ∧ X.env.scope.names.lookup y = some .cell ∧ cl.lookup y = some c ∧ X.env.cells.lookup y = some c ∧ (relabel scope X.env).names.lookup y = some .cell) ∧ CapsOk X scope cl cs ns
  | _, _ => False
theorem CapsOk.at {X : Cx} {scope : Scope} {cl : List (Str × Addr)} : ∀ {cs : List (Option Nat)} {ns : List Str} {j i : Nat} {y : Str}, CapsOk X scope cl cs ns → cs[j]? = some (some i) → ns[j]? = some y →
    ∃ c, X.N[i]? = some y ∧ X.env.scope.names.lookup y = some .cell ∧ cl.lookup y = some c ∧ X.env.cells.lookup y = some c ∧ (relabel scope X.env).names.lookup y = some .cell
  | [], _, j, i, y, _, e, _ => by simp at e
  | none :: cs, [], _, _, _, h, _, _ => False.elim h
  | some _ :: cs, [], _, _, _, h, _, _ => False.elim h
  | none :: cs, _ :: ns, 0, i, y, h, e, _ => by simp at e
  | none :: cs, _ :: ns, j + 1, i, y, h, e, e' => CapsOk.at (cs := cs) (ns := ns) (j := j) h (by simpa using e) (by simpa using e')
  | some k :: cs, z :: ns, 0, i, y, h, e, e' => by
    have e1 : k = i := by simpa using e
    have e2 : z = y := by simpa using e'
    subst e1; subst e2
    exact h.1
  | some k :: cs, z :: ns, j + 1, i, y, h, e, e' => CapsOk.at (cs := cs) (ns := ns) (j := j) h.2 (by simpa using e) (by simpa using e')
theorem CapsOk.len {X : Cx} {scope : Scope} {cl : List (Str × Addr)} : ∀ {cs : List (Option Nat)} {ns : List Str}, CapsOk X scope cl cs ns → cs.length = ns.length
  | [], [], _ => rfl
  | [], _ :: _, h => False.elim h
  | none :: cs, [], h => False.elim h
  | some _ :: cs, [], h => False.elim h
  | none :: cs, _ :: ns, h => congrArg (· + 1) (CapsOk.len (cs := cs) (ns := ns) h)
  | some _ :: cs, _ :: ns, h => congrArg (· + 1) (CapsOk.len (cs := cs) (ns := ns) h.2)
noncomputable def capσ (cap : List (Option Nat)) (σ : L2.St) : L2.St := cap.map fun o => o.bind fun i => (σ[i]?).bind id
noncomputable def PTs (X : Cx) (ifs : List Expr) (t : TT) : Prop :=
  ∀ (pins : List (Addr × Obj)) (s : Shared) (σ : L2.St) (H : Hp) (Q : Bool → Hp → Prop), Inv X pins σ H s → t σ H Q →
    wpAny (model X.prog X.w) X.A (forIn ifs true fun c r => if r = true then do let ok ← isTrue c X.env (eval c X.env); pure (ForInStep.yield ok) else pure (ForInStep.yield r)) (TP X pins σ Q) X.xe s
noncomputable def tYes : TT := fun _ H Q => Q true H
theorem pts_nil {X : Cx} : PTs X [] tYes := fun _ _ _ H _ I h => wpAny_tests_nil ⟨H, I, h⟩
theorem pts_one {X : Cx} {c : Expr} {t : TT} (h : PT X c t) : PTs X [c] t := fun pins s σ H Q I q => wpAny_tests_one (h pins s σ H Q I q)
noncomputable def tLC (wi : TI) (cap : List (Option Nat)) (g : TG) (tt : TT) (te : TE) : TE := fun σ H Q => wi σ H fun J H1 => ∀ D, H1 D = none →
  ∃ W : Nat → Nat → L2.St → Hp → Prop, (∃ m, W 0 m (capσ cap σ) (upd H1 D (.lst []))) ∧ ∀ i m σc Hc, W i m σc Hc →
    (J.stop i Hc ∧ Q (.ref D) Hc) ∨ (J.go i Hc ∧ ∃ N : L2.St → Hp → Prop, (∀ σ' H', N σ' H' → ∃ m', m' < m ∧ W (i + 1) m' σ' H') ∧ ∀ x H', J.yld i Hc x H' → g x σc H' fun σ2 H2 => tt σ2 H2 fun b H3 =>
      if b = true then te σ2 H3 fun y H4 => ∃ ys, H4 D = some (.lst ys) ∧ ys.length < sizeLine ∧ N σ2 (upd H4 D (.lst (ys ++ [y]))) else N σ2 H3)
structure LcOk (X : Cx) (scope : Scope) (cl : List (Str × Addr)) (cap : List (Option Nat)) (NC : List Str) : Prop where
  clos : closureFor scope X.env = pure cl
  kind : scope.kind = .function
  nocell : ∀ x ∈ scope.names, x.2 ≠ .cell
  names : ∀ x ∈ scope.names, x.2 = .local → scope.names.lookup x.1 = some .local
  caps : CapsOk X scope cl cap NC
  cells : ∀ p ∈ cl, X.env.cells.lookup p.1 = some p.2
  has : ((relabel scope X.env).names.all fun p => (p.2 != .cell && p.2 != .free) || (cl.lookup p.1).isSome) = true
section
variable {X : Cx} {elt target iter : Expr} {ifs : List Expr} {scope : Scope} {pos : Pos} {wi : TI} {cap : List (Option Nat)} {NC : List Str} {cl : List (Str × Addr)} {g : TG} {tt : TT} {te : TE}
theorem lc_cells (L : LcOk X scope cl cap NC) {x : Str} {c : Addr} (h : cl.lookup x = some c) : X.env.cells.lookup x = some c := L.cells (x, c) (PySem.mem_of_lookup h)
theorem lc_block {pins : List (Addr × Obj)} {σ : L2.St} {s₂ : Shared} {H2 : Hp} {it : Addr} {fp : List Addr} {tn : Nat → Heap → Prop} {J : It} {Z : Value → Addr → Result → Shared → Prop} {G : V → Hp → Prop}
    (hc : X.calm = true) (L : LcOk X scope cl cap NC) (hg : ∀ C s₀ H₀ fp, PG (lcCx X scope cl NC C s₀ H₀ fp) target g) (ht : ∀ C s₀ H₀ fp, PTs (lcCx X scope cl NC C s₀ H₀ fp) ifs tt) (he : ∀ C s₀ H₀ fp, PE (lcCx X scope cl NC C s₀ H₀ fp) elt te)
    (I2 : Inv X pins σ H2 s₂) (T : Turn X.prog X.w X.K target J fp it tn) (st2 : tn 0 s₂.heap) (f2 : ∀ b ∈ fp, FpOk X pins H2 b)
    (hW : ∀ D, H2 D = none → ∃ W : Nat → Nat → L2.St → Hp → Prop, (∃ m, W 0 m (capσ cap σ) (upd H2 D (.lst []))) ∧ ∀ i m σc Hc, W i m σc Hc →
      (J.stop i Hc ∧ G (.ref D) Hc) ∨ (J.go i Hc ∧ ∃ N : L2.St → Hp → Prop, (∀ σ' H', N σ' H' → ∃ m', m' < m ∧ W (i + 1) m' σ' H') ∧ ∀ x H', J.yld i Hc x H' → g x σc H' fun σ2 H2 => tt σ2 H2 fun b H3 =>
        if b = true then te σ2 H3 fun y H4 => ∃ ys, H4 D = some (.lst ys) ∧ ys.length < sizeLine ∧ N σ2 (upd H4 D (.lst (ys ++ [y]))) else N σ2 H3))
    (hZ : ∀ (D C : Addr) (Hc : Hp) (s' : Shared) (m : Str → Option Value), s'.heap.Ns C m → (∀ h', Heap.SameBut C s'.heap h' → ∀ t', Inv X pins σ Hc { s' with heap := h', toks := t' }) → FpOk X pins Hc C → G (.ref D) Hc → Z (.ref D) C (.ok .next) s') {E : Value → Shared → Prop} :
    wpAny (model X.prog X.w) X.A (newList []) (fun acc s₃ => wpAny (model X.prog X.w) X.A (newFunctionEnv scope X.env.globals cl [] X.env.qual none .none (some X.env)) (fun cenv s₄ =>
      codeAny (model X.prog X.w) X.A (.compStart (.ListComp elt [⟨target, iter, ifs, 0⟩] scope pos) 0 (.ref it) acc { cenv with scope := relabel scope X.env }) (Z acc cenv.locals) s₄) E s₃) E s₂ := by
  refine wpAny_newObj_type (wpAny_newFunctionEnv L.nocell (by intro y hy; simp at hy) (fun h₁ hns₁ hsb₁ => ?_) L.kind)
  dsimp only at hns₁ hsb₁ ⊢
  have nD : H2 s₂.heap.objs.size = none := I2.hok.fresh (Nat.le_refl _)
  have I3 : Inv X pins σ (upd H2 s₂.heap.objs.size (.lst [])) { s₂ with heap := s₂.heap.push { cls := .type "list", dict := none, data := .seq ([] : List Value).toArray } } := by
    refine I2.laid (t' := s₂.toks) (fun b u e => Heap.get?_push_of_some _ e) (Nat.le_refl _) ?_
    exact ⟨Nat.zero_le _, [], 0, .nil, Heap.get?_push_size _ rfl⟩
  obtain ⟨W, ⟨m0, w0⟩, turn⟩ := hW s₂.heap.objs.size nD
  generalize hD : s₂.heap.objs.size = D at nD I3 turn w0 ⊢
  generalize hH : s₂.heap.push { cls := .type "list", dict := none, data := .seq ([] : List Value).toArray } = h₀ at hns₁ hsb₁ I3 ⊢
  have hpush : ∀ b o, s₂.heap.get? b = some o → h₀.get? b = some o := fun b o e => by rw [← hH]; exact Heap.get?_push_of_some _ e
  generalize hC : h₀.objs.size = C at hns₁ hsb₁ ⊢
  have belowC : ∀ b o, h₀.get? b = some o → b ≠ C := fun b o e z => by
    have := Heap.lt_size e
    rw [hC, ← z] at this
    exact Nat.lt_irrefl _ this
  have old : ∀ b o, h₀.get? b = some o → h₁.get? b = some o := fun b o e => hsb₁.extBut b o (belowC b o e) (Heap.get?_push_of_some _ e)
  have f3 : ∀ b ∈ fp, FpOk X pins (upd H2 D (.lst [])) b := fun b hb => by
    obtain ⟨x1, x2⟩ := f2 b hb
    obtain ⟨o, e, _⟩ := T.obj 0 _ st2 b hb
    refine ⟨?_, x2⟩
    rw [upd_ne (fun z => by have := Heap.lt_size e; rw [z, ← hD] at this; exact Nat.lt_irrefl _ this)]
    exact x1
  have fpC : ∀ b ∈ fp, b ≠ C := fun b hb => by
    obtain ⟨o, e, _⟩ := T.obj 0 _ st2 b hb
    exact belowC b o (hpush b o e)
  have clC : ∀ x c, cl.lookup x = some c → c ≠ C := fun x c e => by
    obtain ⟨v, o, ho, _⟩ := I3.cell x c (lc_cells L e)
    exact belowC c o ho
  let Y : Cx := lcCx X scope cl NC C { s₂ with heap := h₀ } (upd H2 D (.lst [])) fp
  have noC : (upd H2 D (.lst [])) C = none := I3.hok.fresh (by show h₀.objs.size ≤ C; rw [hC]; exact Nat.le_refl _)
  have okY : Y.Ok := by
    refine ⟨I3.ok.mod, by show (relabel scope X.env).kind = _; exact L.kind, I3.ok.glob, I3.ok.blt, by show h₀.objs.size ≤ C; rw [hC]; exact Nat.le_refl _, fun x y c e1 e2 => I3.ok.inj x y c (lc_cells L e1) (lc_cells L e2), fun x hx => ?_, fun x c z => (by cases z), I3.ok.hd, I3.ok.frames, .inl rfl, fun b hb => ⟨fpC b hb, fun x c e => (f3 b hb).2.2.2.2.1 x c (lc_cells L e)⟩, I3.bs, Nat.le_trans I3.ok.bsz I3.sz, fun b o e hb => ?_, fun b hb hm => ?_, I3.stack, I3.stkFree⟩
    · have mem : ∃ k, (x, k) ∈ (relabel scope X.env).names ∧ (k = .cell ∨ k = .free) := by
        rcases hx with z | z
        · exact ⟨_, PySem.mem_of_lookup z, .inl rfl⟩
        · exact ⟨_, PySem.mem_of_lookup z, .inr rfl⟩
      obtain ⟨k, hk, hk2⟩ := mem
      have q := List.all_eq_true.mp L.has (x, k) hk
      have q2 : (cl.lookup x).isSome = true := by
        rcases hk2 with z | z
        · subst z; simpa using q
        · subst z; simpa using q
      exact Option.isSome_iff_exists.mp q2
    · rcases (f3 b hb).2.2.2.1 with z | z
      · exact I3.ok.noex b o e z
      · exact absurd (Nat.lt_of_lt_of_le (Heap.lt_size e) (Nat.le_trans I3.ok.bsz z)) (Nat.lt_irrefl _)
    · rcases List.mem_cons.mp (I3.stkSub b hm) with z | z
      · exact (f3 b hb).2.1 z
      · exact (f3 b hb).2.2.1 z
  have stat : ∀ {Hc : Hp}, (∀ b ∈ fp, Hc b = none) → ∀ b ∈ fp, FpOk Y [] Hc b := fun hn b hb =>
    ⟨hn b hb, fpC b hb, okY.exfs b hb, .inl hb, fun x c e => (okY.exf b hb).2 x c e, fun p hp => absurd (show p ∈ ([] ++ [] : List (Addr × Obj)) from hp) (by simp)⟩
  have back : ∀ {σc : L2.St} {Hc : Hp} {s' : Shared} {pn : List (Addr × Obj)}, Inv Y pn σc Hc s' → ∀ h', Heap.SameBut C s'.heap h' → ∀ t', Inv X pins σ Hc { s' with heap := h', toks := t' } := fun {σc Hc s' pn} I' h' sb t' => by
    have u := I'.base
    have nC : Hc C = none := I'.free
    refine I3.call' (s' := { s' with heap := h', toks := t' }) (ch := fp) I'.os ⟨fun b o e n hb hx => ?_, fun b o e n hb hx => ?_, u.free, fun b o e hx => ?_, u.tups, u.frzs, u.tbls⟩ (fun b o e => ?_) I'.bare (fun b hb => ⟨(f3 b hb).2.2.2.1, (f3 b hb).2.1, (f3 b hb).2.2.2.2.1, (f3 b hb).2.2.2.2.2⟩)
    · exact (sb.2 b (belowC b o e)).trans (u.keep b o e n hb hx)
    · obtain ⟨sl, q⟩ := u.slot b o e n hb hx
      exact ⟨sl, (sb.2 b (belowC b o e)).trans q⟩
    · obtain ⟨o', q⟩ := u.there b o e hx
      exact ⟨o', (sb.2 b (belowC b o e)).trans q⟩
    · refine (I'.hok b o e).stay (fun c v hcb q => (sb.2 c ?_).trans q) (fun _ q => q) fun _ _ q => q
      rintro rfl
      rcases hcb with z | z
      · subst z
        rw [nC] at e; cases e
      · rw [nC] at z; cases z
  have Ist : ∀ t', Inv Y [] (capσ cap σ) (upd H2 D (.lst [])) { s₂ with heap := h₁, toks := t' } := fun t' => by
    refine ⟨okY, rfl, I3.bare, ⟨fun b o e _ _ _ => old b o e, fun b o e _ _ _ => ⟨o.slots, old b o e⟩, fun _ _ _ n _ => n, fun b o e _ => ⟨o, old b o e⟩, fun _ _ e => e, fun _ _ _ e => e, fun b ps e => ⟨#[], by rw [show (upd H2 D (.lst [])) b = _ from e]; simp⟩⟩, ⟨_, hns₁, fun j y v e1 e2 e3 => ?_⟩, fun y c e => ?_, noC, fun y c e => I3.freeC y c (lc_cells L e), fun p hp => absurd (show p ∈ ([] ++ [] : List (Addr × Obj)) from hp) (by simp), I3.hok.kept old, by
      show (cap.map _).length = NC.length
      rw [List.length_map]; exact L.caps.len⟩
    · have e2' : (cap.map fun o => o.bind fun i => (σ[i]?).bind id)[j]? = some (some v) := e2
      rw [List.getElem?_map] at e2'
      cases hq : cap[j]? with
      | none => rw [hq] at e2'; cases e2'
      | some o =>
        rw [hq] at e2'
        cases o with
        | none => cases e2'
        | some i =>
          have e4 : (σ[i]?).bind id = some v := by simpa using e2'
          have e5 : σ[i]? = some (some v) := by
            cases hs : σ[i]? with
            | none => rw [hs] at e4; cases e4
            | some z => rw [hs] at e4; simpa using e4
          obtain ⟨c, x1, x2, x3, x4, x5⟩ := L.caps.at hq e1
          obtain ⟨m, hn, hl⟩ := I3.loc
          obtain ⟨u, r, l⟩ := hl i y v x1 e5 (.inr (.inl x2))
          refine ⟨u, r, .inr ⟨.inl x5, c, x3, ?_⟩⟩
          rcases l with ⟨k, _⟩ | ⟨_, c', x6, z⟩
          · have k' : X.env.scope.names.lookup y = some .local := k
            rw [x2] at k'; cases k'
          · rw [x4] at x6; cases x6
            obtain ⟨o, ho, hd⟩ := z
            exact ⟨o, old _ _ ho, hd⟩
    · obtain ⟨v, o, ho, hd⟩ := I3.cell y c (lc_cells L e)
      exact ⟨v, o, old _ _ ho, hd⟩
  have loop : ∀ s₃ : Shared, s₃ = { s₂ with heap := h₁, toks := s₂.toks + ([] : List (Str × Value)).length } →
      codeAny (model X.prog X.w) X.A (.compLoop (.ListComp elt [⟨target, iter, ifs, 0⟩] scope pos) 0 (.ref it) (.ref D) (compEnvC scope cl C X.env)) (Z (.ref D) C) s₃ := by
    rintro s₃ rfl
    refine lc_loop (fun n s' => ∃ i σc Hc, Inv Y [] σc Hc s' ∧ tn i s'.heap ∧ (∀ b ∈ fp, Hc b = none) ∧ W i n σc Hc) ?_ m0 ⟨0, capσ cap σ, _, Ist _, T.keep _ _ _ st2 (fun b hb o e => old b o (hpush b o e)), fun b hb => (f3 b hb).1, w0⟩
    rintro n s5 ⟨i, σc, Hc, I5, st5, fr5, w5⟩ E'
    rcases turn i n σc Hc w5 with ⟨stop, qn⟩ | ⟨go, N, hN, step⟩
    · refine wpAny_mono (T.done Y rfl rfl rfl hc i [] s5 σc Hc E' I5 (stat fr5) st5 stop) (fun r s6 ⟨hr, I6⟩ => ?_) fun _ _ z => z
      subst hr
      obtain ⟨m, hn, _⟩ := id I6.loc
      exact hZ D C Hc s6 m hn (back I6) (I3.fpOk (by show h₀.objs.size ≤ C; rw [hC]; exact Nat.le_refl _) I6.free) qn
    · refine wpAny_mono (T.item Y rfl rfl rfl hc i [] s5 σc Hc E' I5 (stat fr5) st5 go) (fun r s6 ⟨u, hr, h6⟩ => ?_) fun _ _ z => z
      subst hr
      refine wpAny_mono h6 (fun _ s7 ⟨x, H7, I7, r7, y7, st7, fr7⟩ => ?_) fun _ _ z => z
      have I7' := I7.pinned (stat fr7) (T.obj _ _ st7)
      refine wpAny_mono (hg C _ _ fp _ s7 σc H7 x u _ I7' r7 (step x H7 y7)) (fun _ s8 ⟨σ8, H8, I8, q8⟩ => ?_) fun _ _ z => False.elim z
      have again : ∀ {σ9 : L2.St} {H9 : Hp} {s9 : Shared}, Inv Y ([] ++ pinsAt fp s7.heap) σ9 H9 s9 → N σ9 H9 → ∃ m, m < n ∧ ∃ i σ' H', Inv Y [] σ' H' s9 ∧ tn i s9.heap ∧ (∀ b ∈ fp, H' b = none) ∧ W i m σ' H' := fun {σ9 H9 s9} I9 n9 => by
        obtain ⟨m', hm, w9⟩ := hN σ9 H9 n9
        refine ⟨m', hm, i + 1, σ9, H9, I9.unpinned, T.keep _ _ _ st7 fun b hb o e => (I9.pin (b, o) (List.mem_append_right _ (List.mem_append_right _ (mem_pinsAt hb e)))).1, fun b hb => ?_, w9⟩
        obtain ⟨o, e, d⟩ := T.obj _ _ st7 b hb
        exact (I9.pin (b, o) (List.mem_append_right _ (List.mem_append_right _ (mem_pinsAt hb e)))).2.1
      refine wpAny_mono (ht C _ _ fp _ s8 σ8 H8 _ I8 q8) (fun ok s9 ⟨H9, I9, q9⟩ => ?_) fun _ _ z => False.elim z
      cases ok with
      | false =>
        rw [if_neg Bool.false_ne_true] at q9 ⊢
        exact again I9 q9
      | true =>
        rw [if_pos rfl] at q9 ⊢
        refine wpAny_mono (he C _ _ fp _ s9 σ8 H9 _ I9 q9) (fun v sa ⟨y, Ha, Ia, ra, ys, hy, hl, na⟩ => ?_) fun _ _ z => False.elim z
        have app := mt_append (X := Y) _ sa σ8 Ha (.ref D) [y] (.ref D) [v] (fun _ Hb => N σ8 Hb) Ia rfl (.cons ra .nil) ⟨D, ys, y, rfl, rfl, hy, hl, na⟩
        exact wpAny_mono app (fun _ sb ⟨_, Hb, Ib, _, nb⟩ => again Ib nb) fun _ _ z => False.elim z
  exact codeAny_compStart_list (loop _ rfl) (T.self _ 0 _ _ _ (T.keep _ _ _ st2 fun b hb o e => old b o (hpush b o e)) (loop _ rfl))
theorem pe_lc (hc : X.calm = true) (L : LcOk X scope cl cap NC) (hi : PI X target iter wi) (hg : ∀ C s₀ H₀ fp, PG (lcCx X scope cl NC C s₀ H₀ fp) target g) (ht : ∀ C s₀ H₀ fp, PTs (lcCx X scope cl NC C s₀ H₀ fp) ifs tt) (he : ∀ C s₀ H₀ fp, PE (lcCx X scope cl NC C s₀ H₀ fp) elt te)
    (hs : ∀ x, foldedSetIterable iter X.env x = pure x := by intro _; rfl) : PE X (.ListComp elt [⟨target, iter, ifs, 0⟩] scope pos) (tLC wi cap g tt te) := by
  intro pins s σ H Q I h
  rw [eval_ListComp]
  refine wpAny_comprehension_free (use := none) rfl hs L.clos L.kind L.names (thn (hi pins s σ H _ I h) fun xv s₁ h₁ => thn h₁ fun itv s₂ h₂ => ?_)
  obtain ⟨it, fp, tn, J, H2, rfl, I2, T, st2, f2, hq⟩ := h₂
  refine lc_block (G := Q) hc L hg ht he I2 T st2 f2 hq fun D C Hc s' m hn back _ q => ?_
  exact ⟨m, hn, fun h' sb => ⟨.ref D, Hc, back h' sb _, rfl, q⟩⟩
end
end Lx
namespace Lx
open PySem PySem.Spec PyProof.Rows L2
mutual
inductive DV (K : PySem.W.Frag) (H : Hp) : V → PyData → Prop
  | non : DV K H .non .none
  | bl (b : Bool) : DV K H (.bl b) (.bool b)
  | int (i : Int) : DV K H (.int i) (.int i)
  | str (x : Str) : DV K H (.str x) (.str x)
  | tup {a : Addr} {xs : List V} {ds : List PyData} : SqT K H a xs → DVs K H xs ds → DV K H (.ref a) (.tuple ds)
  | lst {a : Addr} {xs : List V} {ds : List PyData} : SqL K H a xs → DVs K H xs ds → DV K H (.ref a) (.list ds)
    | dct {a : Addr} {x y : Str} : H a = some (.dK [(.inr x, .str y)]) → DV K H (.ref a) (.dict [(.str x, .str y)])
inductive DVs (K : PySem.W.Frag) (H : Hp) : List V → List PyData → Prop
  | nil : DVs K H [] []
  | cons {x : V} {xs : List V} {d : PyData} {ds : List PyData} : DV K H x d → DVs K H xs ds → DVs K H (x :: xs) (d :: ds)
end
section
variable {X : Cx} {pins : List (Addr × Obj)} {σ : L2.St} {H : Hp} {s : Shared}
mutual
theorem dv_reads (I : Inv X pins σ H s) : ∀ {x : V} {d : PyData} {u : Value}, DV X.K H x d → RelV x u → ∃ as, Reads s.heap u d as
  | _, _, u, .non, r => by
    cases (show u = Value.none from r)
    exact ⟨_, .none⟩
  | _, _, u, .bl b, r => by
    cases (show u = Value.bool b from r)
    exact ⟨_, .bool b⟩
  | _, _, u, .int i, r => by
    obtain ⟨t, rfl⟩ := r
    exact ⟨_, .int i t⟩
  | _, _, u, .str x, r => by
    obtain ⟨t, rfl⟩ := r
    exact ⟨_, .str x t⟩
  | _, _, u, @DV.tup _ _ a xs ds h hs, r => by
    cases (show u = Value.ref a from r)
    obtain ⟨its, rv, ⟨o, ho, hc, n, hd⟩, _⟩ := I.tuple h
    obtain ⟨as, q⟩ := dvs_reads I hs rv
    exact ⟨_, .tuple ho hc hd (by simpa using q)⟩
  | _, _, u, @DV.lst _ _ a xs ds h hs, r => by
    cases (show u = Value.ref a from r)
    obtain ⟨its, rv, ⟨o, n, ho, hc, _, hd⟩, _⟩ := I.list h
    obtain ⟨as, q⟩ := dvs_reads I hs rv
    exact ⟨_, .list ho hc hd (by simpa using q)⟩
  | _, _, u, @DV.dct _ _ a x y h, r => by
    cases (show u = Value.ref a from r)
    obtain ⟨_, _, vs, rel, o, es, ep, ho, hc, hd, hk, hp, _⟩ := (show ObjOk X.prog X.w H s.heap a (.dK [(.inr x, .str y)]) from I.hok a _ h)
    unfold KV at rel
    cases rel with
    | @cons p q ps qs h1 t =>
      cases t
      obtain ⟨k, v⟩ := q
      obtain ⟨e1, t1, e2⟩ := h1
      have e1' : Sum.inr x = k := e1
      subst e1'
      have e2' : v = Value.str y t1 := e2
      subst e2'
      generalize hes : es.toList = l at hp
      cases hp with
      | @cons e kv es' kvs' hk1 hv1 ht1 =>
        cases ht1
        have hk2 : keyIs (.inr x) e.key = true := hk1
        have ek : ∃ t2, e.key = Value.str x t2 := by
          rcases keyIs_shape hk2 with ⟨i, t2, z, _⟩ | ⟨x2, t2, z, z2⟩
          · exact nomatch z
          · cases z; exact ⟨t2, z2⟩
        obtain ⟨t2, ek⟩ := ek
        have ev : e.val = Value.str y t1 := hv1
        exact ⟨_, .dict (as := [] ++ []) (bs := [] ++ []) ho hc.1 hd (by rw [hes]; show ReadsAll _ [e.key] [PyData.str x] _; rw [ek]; exact .cons (.str x t2) .nil) (by rw [hes]; show ReadsAll _ [e.val] [PyData.str y] _; rw [ev]; exact .cons (.str y t1) .nil)⟩
theorem dvs_reads (I : Inv X pins σ H s) : ∀ {xs : List V} {ds : List PyData} {us : List Value}, DVs X.K H xs ds → Vals xs us → ∃ as, ReadsAll s.heap us ds as
  | _, _, _, .nil, .nil => ⟨_, .nil⟩
  | _, _, _, .cons h hs, .cons r rs => by
    obtain ⟨as, q⟩ := dv_reads I h r
    obtain ⟨bs, qs⟩ := dvs_reads I hs rs
    exact ⟨_, .cons q qs⟩
end
end
structure Enc (α : Type) where
  d : α → PyData
  dep : Nat
  small : dep ≤ 60
  lay : ∀ x, (d x).canLay0 = true
  depth : ∀ x, (d x).depth ≤ dep
  eqv : ∀ x y, PyData.eqv (d x) (d y) = true ↔ x = y
theorem Enc.shaped {α : Type} (e : Enc α) (x : α) : SeqAt.shaped (e.d x) = true := by
  unfold SeqAt.shaped
  rw [e.lay, Bool.true_and]
  exact decide_eq_true (Nat.le_trans (e.depth x) (Nat.le_trans e.small (by decide)))
theorem enc_all {α : Type} (e : Enc α) : ∀ (xs : List α), PyData.canLayAll0 (xs.map e.d) = true ∧ PyData.depthAll (xs.map e.d) ≤ e.dep
  | [] => ⟨rfl, by simp [PyData.depthAll]⟩
  | x :: xs => by
    obtain ⟨h1, h2⟩ := enc_all e xs
    have h3 := e.lay x
    have h4 := e.depth x
    constructor
    · show ((e.d x).canLay0 && PyData.canLayAll0 (xs.map e.d)) = true
      rw [h3, h1]; rfl
    · show PyData.depthAll (e.d x :: xs.map e.d) ≤ e.dep
      simp only [PyData.depthAll]
      omega
noncomputable def eRat : Enc Rat where
  d := fun q => .tuple [.int q.num, .int (q.den : Int)]
  dep := 1
  small := by decide
  lay := fun q => by simp [PyData.canLay0, PyData.canLayAll0]
  depth := fun q => by simp [PyData.depth, PyData.depthAll]
  eqv := fun p q => by
    simp only [PyData.eqv, PyData.eqvAll, Bool.and_eq_true, beq_iff_eq, and_true]
    constructor
    · rintro ⟨h1, h2⟩
      exact Rat.ext h1 (by omega)
    · rintro rfl
      exact ⟨rfl, rfl⟩
noncomputable def rEqD (K : PySem.W.Frag) (neg : Bool) : R2 := fun x y H Q => ∃ (α : Type) (e : Enc α) (a b : α), DV K H x (e.d a) ∧ DV K H y (e.d b) ∧ ∀ k : Bool, (k = true ↔ a = b) → Q (.bl (if neg then !k else k)) H
section
variable {X : Cx}
theorem op_eqD (hu : X.A.units + 64 < cLine) : OpR X (compareOp .Eq) (rEqD X.K false) := by
  intro pins s σ H x y v u Q I rx ry h
  obtain ⟨α, e, a, b, da, db, q⟩ := h
  obtain ⟨as, r1⟩ := dv_reads I da rx
  obtain ⟨bs, r2⟩ := dv_reads I db ry
  exact eq_dataH r1 r2 (e.shaped a) (e.shaped b) hu ⟨.bl _, H, I, rfl, q _ (e.eqv a b)⟩
theorem op_neD (hu : X.A.units + 64 < cLine) : OpR X (compareOp .NotEq) (rEqD X.K true) := by
  intro pins s σ H x y v u Q I rx ry h
  obtain ⟨α, e, a, b, da, db, q⟩ := h
  obtain ⟨as, r1⟩ := dv_reads I da rx
  obtain ⟨bs, r2⟩ := dv_reads I db ry
  exact ne_dataH r1 r2 (e.shaped a) (e.shaped b) hu ⟨.bl _, H, I, rfl, q _ (e.eqv a b)⟩
theorem any_enc {α : Type} (e : Enc α) (a : α) : ∀ bs : List α, ((bs.map e.d).any fun y => PyData.eqv y (e.d a)) = true ↔ a ∈ bs
  | [] => by simp
  | b :: bs => by
    have h := any_enc e a bs
    have h2 := e.eqv b a
    simp only [List.map_cons, List.any_cons, Bool.or_eq_true, h, h2, List.mem_cons]
    constructor
    · rintro (z | z)
      · exact .inl z.symm
      · exact .inr z
    · rintro (z | z)
      · exact .inl z.symm
      · exact .inr z
end
end Lx
namespace Lx
open PySem PySem.Spec PyProof.Rows L2
structure ExcK (K : PySem.W.Frag) (C : Addr) : Prop where
  fg : PySem.W.findIn K (.ref C) "__getattribute__" = some (some (.builtin "BaseException.__getattribute__"))
  fa : PySem.W.findIn K (.ref C) "__getattr__" = some none
  fc : PySem.W.findIn K (.ref C) "__class__" = some (some (.builtin "object.__class__"))
  so : PySem.W.subIn K (.ref C) (.type "object") = some true
  sb : PySem.W.subIn K (.ref C) (.type "BaseException") = some true
section
variable {prog : Program} {w : World} {A : Around} {E : Value → Shared → Prop} {h : Heap} {g : Array GenState} {d : Drawn} {t : Nat} {os : OsState} {a C : Addr} {o : Obj} {K : PySem.W.Frag}
end
noncomputable def IsExc (x C : Addr) (h : Heap) : Prop := ∃ o vs, h.get? x = some o ∧ o.cls = .ref C ∧ o.data = .fields vs
section
variable {X : Cx}
variable {pins : List (Addr × Obj)} {σ : L2.St} {H : Hp} {s : Shared} {x C : Addr}
end
end Lx
namespace Lx
open PySem PySem.Spec PyProof.Rows L2
section
variable {X : Cx} {K : PySem.W.Frag}
theorem ixlK (h : X.K = K) : IxR X (rIxL K) := by subst h; exact ix_list
theorem ixtK (h : X.K = K) : IxR X (rIxT K) := by subst h; exact ix_tup
theorem lenK (h : X.K = K) : CallR X (.builtin "len") (fun xs H Q => ∃ p ys, xs = [.ref p] ∧ (SqL K H p ys ∨ SqT K H p ys) ∧ Q (.int ys.length) H) := by subst h; exact call_len_seq
theorem listK (h : X.K = K) : CallR X (.type "list") (fun xs H Q => ∃ p ys, xs = [.ref p] ∧ (SqL K H p ys ∨ SqT K H p ys) ∧ ∀ l, H l = none → Q (.ref l) (upd H l (.lst ys))) := by subst h; exact call_list_of
theorem sllK (h : X.K = K) : SlR X (rSlL K) := by subst h; exact sl_list
theorem eqK (h : X.K = K) (hu : X.A.units + 64 < cLine) : OpR X (compareOp .Eq) (rEqD K false) := by subst h; exact op_eqD hu
theorem neK (h : X.K = K) (hu : X.A.units + 64 < cLine) : OpR X (compareOp .NotEq) (rEqD K true) := by subst h; exact op_neD hu
theorem pilK {tg l : Expr} {tl : TE} (h : X.K = K) (hl : PE X l tl) : PI X tg l (iList K tl) := by subst h; exact pi_list hl
theorem pgtK {es : List Expr} {k : Nat} {pos : Pos} {t : TGs} {n : Nat} (h : X.K = K) (hc : X.calm = true) (hg : PGs X es t)
    (hn : (assignEach es X.env).length = n := by rfl) (hst : (assignEach es X.env).findIdx? (·.1) = none := by rfl) : PG X (.Tuple es k pos) (gTup K n t) := by subst h; exact pg_tup hc hg hn hst
end
end Lx
namespace Lx
open PySem PySem.Spec PyProof.Rows L2
section
variable {X : Cx} {elt target iter : Expr} {ifs : List Expr} {scope : Scope} {pos spos pos' : Pos} {wi : TI} {cap : List (Option Nat)} {NC : List Str} {cl : List (Str × Addr)} {g : TG} {tt : TT} {te : TE}
theorem ps_setLC {i : Nat} {x : Str} (hN : X.N.Nodup) (hi : X.N[i]? = some x) (hx : X.env.scope.names.lookup x = some .local) (hc : X.calm = true) (L : LcOk X scope cl cap NC) (hit : PI X target iter wi)
    (hg : ∀ C s₀ H₀ fp, PG (lcCx X scope cl NC C s₀ H₀ fp) target g) (ht : ∀ C s₀ H₀ fp, PTs (lcCx X scope cl NC C s₀ H₀ fp) ifs tt) (he : ∀ C s₀ H₀ fp, PE (lcCx X scope cl NC C s₀ H₀ fp) elt te)
    (hsw : swapsWith (.ListComp elt [⟨target, iter, ifs, 0⟩] scope pos) (some (.Name x pos')) spos.line X.env = pure true := by rfl)
    (hs : ∀ x, foldedSetIterable iter X.env x = pure x := by intro _; rfl) : PS X (.Assign [.Name x pos'] (.ListComp elt [⟨target, iter, ifs, 0⟩] scope pos) spos) (tAsg (tLC wi cap g tt te) (gName i)) := by
  intro pins s σ H D I h
  rw [exec_Assign_Name_used _ _ _ _ hsw]
  refine wpAny_bind (wpAny_standAt (wpAny_bind ?_))
  show wpAny _ X.A (do let _ ← comprehension (.ListComp elt [⟨target, iter, ifs, 0⟩] scope pos) scope X.env _ (newList []) false (eval iter X.env) (some (assign (.Name x pos') X.env))) _ _ s
  refine wpAny_bind (wpAny_mono (wpAny_comprehension_free (use := some (assign (.Name x pos') X.env)) (Q := fun _ s' => SP X pins D .next s') rfl hs L.clos L.kind L.names
    (thn (hit pins s σ H _ I h) fun xv s₁ h₁ => thn h₁ fun itv s₂ h₂ => ?_)) (fun _ s' hq => wpAny_pure (wpAny_pure hq)) fun _ _ e => e)
  obtain ⟨it, fp, tn, J, H2, rfl, I2, T, st2, f2, hq⟩ := h₂
  refine lc_block (G := fun v H' => D.nx (σ.set i (some v)) H') hc L hg ht he I2 T st2 f2 hq fun Dd C Hc s' m hn back fpC q => ?_
  obtain ⟨z1, z2, z3, z4, z5, z6⟩ := fpC
  have Ib : Inv X pins σ Hc s' := back s'.heap (.refl _ _) s'.toks
  show wpAny _ X.A (assign (.Name x pos') X.env (.ref Dd)) _ _ _
  refine wpAny_assign_Name (store_ok2 Ib hN hi (.inl hx) (show RelV (.ref Dd) (.ref Dd) from rfl) (fun s2 I2 ⟨a, sb, ha⟩ => ?_) (.inr hx))
  have hCa : C ≠ a := by
    rcases ha with z | z
    · rw [z]; exact z2
    · exact fun e => z5 x a z e.symm
  refine ⟨m, hn.sameBut sb hCa, fun h' sb' => ⟨_, Hc, ?_, q⟩⟩
  exact I2.turned (t' := s2.toks) (it := C) (fun b o hb e => (sb'.2 b hb).trans e) z1 z2 z4 z5 z6
end
theorem ints_vals : ∀ {ns : List Int} {us : List Value}, Vals (ns.map V.int) us → ∃ xs : List (Int × Tok), us = xs.map (fun p => Value.int p.1 p.2) ∧ xs.map (·.1) = ns
  | [], _, .nil => ⟨[], rfl, rfl⟩
  | n :: ns, _, .cons r rs => by
    obtain ⟨t, rfl⟩ := r
    obtain ⟨xs, rfl, e⟩ := ints_vals rs
    exact ⟨(n, t) :: xs, rfl, by simp [e]⟩
section
variable {X : Cx} {K : PySem.W.Frag}
theorem call_sum (hc : X.calm = true) : CallR X (.builtin "sum") (fun xs H Q => ∃ (p : Addr) (ns : List Int), xs = [.ref p] ∧ SqL X.K H p (ns.map V.int) ∧ Q (.int ns.sum) H) := by
  intro pins s σ H xs us Q I r h
  obtain ⟨p, ns, rfl, hq, q⟩ := h
  obtain ⟨u, rfl, rx⟩ := vals1 r
  cases rx
  obtain ⟨its, r', pl, hz⟩ := I.list hq
  obtain ⟨ys, rfl, e⟩ := ints_vals r'
  have hl : s.heap.IsList p (intItems ys.toArray) := by
    have := pl.isList
    simpa [intItems] using this
  refine sum_intListG (I.ok.hd hc) hl fun h' tk t' hk => ?_
  refine ⟨.int ns.sum, H, I.kept (t' := tk) hk, ⟨t', ?_⟩, q⟩
  rw [preSum_eq, List.take_of_length_le (by simp)]
  simp [e]
theorem sumK (h : X.K = K) (hc : X.calm = true) : CallR X (.builtin "sum") (fun xs H Q => ∃ (p : Addr) (ns : List Int), xs = [.ref p] ∧ SqL K H p (ns.map V.int) ∧ Q (.int ns.sum) H) := by subst h; exact call_sum hc
end
end Lx
namespace Fm
theorem abs_if (i : Int) : (if i < 0 then -i else i) = ((i.natAbs : Nat) : Int) := by omega
theorem gcd_step (a b : Int) (h : 0 < b) : Int.gcd b (a % b) = Int.gcd a b := by
  rw [Int.gcd_comm b (a % b), Int.emod_def]
  exact Int.gcd_sub_mul_left_left _ _ _
theorem gcd_zero {a : Int} (h : 0 ≤ a) : ((Int.gcd a 0 : Nat) : Int) = a := by
  rw [Int.gcd_zero_right]; omega
theorem gcd_le_right {a b : Int} (hb : b ≠ 0) : Int.gcd a b ≤ b.natAbs := Nat.le_of_dvd (by omega) (Int.gcd_dvd_natAbs_right a b)
theorem gcd_pos_right {a b : Int} (hb : b ≠ 0) : 0 < Int.gcd a b := Int.gcd_pos_of_ne_zero_right a hb
theorem fr_num {t b : Int} (hb : b ≠ 0) : t.fdiv (if b < 0 then -((Int.gcd t b : Nat) : Int) else ((Int.gcd t b : Nat) : Int)) = (Rat.divInt t b).num := by
  rw [Rat.num_divInt, Int.gcd_comm b t]
  have hg : (0 : Int) < ((Int.gcd t b : Nat) : Int) := by have := gcd_pos_right (a := t) hb; omega
  have hd : ((Int.gcd t b : Nat) : Int) ∣ t := Int.gcd_dvd_left t b
  split
  · rename_i hn
    rw [Int.sign_eq_neg_one_of_neg hn]
    obtain ⟨k, hk⟩ := hd
    generalize ((Int.gcd t b : Nat) : Int) = g at hg hk
    subst hk
    rw [show -1 * (g * k) = g * (-k) by grind, Int.mul_ediv_cancel_left _ (by omega)]
    rw [show g * k = (-g) * (-k) by grind]
    exact Int.mul_fdiv_cancel_left _ (by omega)
  · rename_i hn
    rw [Int.sign_eq_one_of_pos (by omega), Int.one_mul, Int.fdiv_eq_ediv_of_nonneg _ (by omega)]
theorem fr_den {t b : Int} (hb : b ≠ 0) : b.fdiv (if b < 0 then -((Int.gcd t b : Nat) : Int) else ((Int.gcd t b : Nat) : Int)) = (((Rat.divInt t b).den : Nat) : Int) := by
  rw [Rat.den_divInt, if_neg hb, Int.gcd_comm b t]
  have hg : (0 : Int) < ((Int.gcd t b : Nat) : Int) := by have := gcd_pos_right (a := t) hb; omega
  have hd : ((Int.gcd t b : Nat) : Int) ∣ b := Int.gcd_dvd_right t b
  rw [Int.natCast_ediv]
  split
  · rename_i hn
    rw [show ((b.natAbs : Nat) : Int) = -b by omega]
    obtain ⟨k, hk⟩ := hd
    generalize ((Int.gcd t b : Nat) : Int) = g at hg hk
    subst hk
    rw [show -(g * k) = g * (-k) by grind, Int.mul_ediv_cancel_left _ (by omega)]
    rw [show g * k = (-g) * (-k) by grind]
    exact Int.mul_fdiv_cancel_left _ (by omega)
  · rename_i hn
    rw [show ((b.natAbs : Nat) : Int) = b by omega, Int.fdiv_eq_ediv_of_nonneg _ (by omega)]
theorem add_parts (a b : Rat) (s : Nat) (hs : s = a.den.gcd b.den) (tp : Int) (ht : tp = a.num * ((b.den / s : Nat) : Int) + b.num * ((a.den / s : Nat) : Int)) (g : Nat) (hg : g = s.gcd tp.natAbs) :
    (a + b).num = tp / (g : Int) ∧ (a + b).den = a.den / s * (b.den / g) := by
  have hs0 : 0 < s := by rw [hs]; exact Nat.gcd_pos_of_pos_left _ (Nat.pos_of_ne_zero a.den_nz)
  have hg0 : 0 < g := by rw [hg]; exact Nat.gcd_pos_of_pos_left _ hs0
  have hgs : g ∣ s := by rw [hg]; exact Nat.gcd_dvd_left _ _
  have hsb : s ∣ b.den := by rw [hs]; exact Nat.gcd_dvd_right _ _
  have hgb : g ∣ b.den := Nat.dvd_trans hgs hsb
  have e : a.den / s * (b.den / g) = a.den / s * b.den / g := (Nat.mul_div_assoc _ hgb).symm
  rw [e]
  show (Rat.add a b).num = _ ∧ (Rat.add a b).den = _
  unfold Rat.add
  simp only [← hs]
  split
  · rename_i h1
    have : g = 1 := by rw [hg, h1]; exact Nat.gcd_one_left _
    subst this
    dsimp only
    rw [ht, h1]
    simp
  · rename_i h1
    simp only [Rat.maybeNormalize_eq]
    have hg2 : (a.num * ((b.den / s : Nat) : Int) + b.num * ((a.den / s : Nat) : Int)).natAbs.gcd s = g := by rw [hg, ← ht, Nat.gcd_comm]
    have hd : (g : Int) ∣ tp := by
      rw [hg]
      exact Int.ofNat_dvd_left.mpr (Nat.gcd_dvd_right _ _)
    constructor
    · rw [Int.divExact_eq_tdiv, hg2, ← ht, Int.tdiv_eq_ediv_of_dvd hd]
    · rw [hg2]
theorem mul_parts (a b : Rat) : (a * b).num = (Rat.divInt a.num (b.den : Int)).num * (Rat.divInt b.num (a.den : Int)).num ∧ (a * b).den = (Rat.divInt a.num (b.den : Int)).den * (Rat.divInt b.num (a.den : Int)).den := by
  show (Rat.mul a b).num = _ ∧ (Rat.mul a b).den = _
  have ha : (a.den : Int) ≠ 0 := by have := a.den_nz; omega
  have hb : (b.den : Int) ≠ 0 := by have := b.den_nz; omega
  rw [Rat.num_divInt, Rat.num_divInt, Rat.den_divInt, Rat.den_divInt, if_neg ha, if_neg hb]
  have e1 : ((b.den : Nat) : Int).sign = 1 := Int.sign_eq_one_of_pos (by have := b.den_nz; omega)
  have e2 : ((a.den : Nat) : Int).sign = 1 := Int.sign_eq_one_of_pos (by have := a.den_nz; omega)
  rw [e1, e2, Int.one_mul, Int.one_mul]
  unfold Rat.mul
  dsimp only
  have g1 : Int.gcd ((b.den : Nat) : Int) a.num = a.num.natAbs.gcd b.den := by rw [Int.gcd_comm]; rfl
  have g2 : Int.gcd ((a.den : Nat) : Int) b.num = b.num.natAbs.gcd a.den := by rw [Int.gcd_comm]; rfl
  rw [g1, g2]
  constructor
  · rw [Int.divExact_eq_tdiv, Int.divExact_eq_tdiv, Int.tdiv_eq_ediv_of_dvd (Int.ofNat_dvd_left.mpr (Nat.gcd_dvd_left _ _)), Int.tdiv_eq_ediv_of_dvd (Int.ofNat_dvd_left.mpr (Nat.gcd_dvd_left _ _))]
  · rw [Nat.mul_comm]; rfl
theorem mk_div (n : Int) (d : Int) (hd : d ≠ 0) : Rat.divInt n d = (n : Rat) / (d : Rat) := Rat.divInt_eq_div n d
theorem div_inv (b : Rat) : Rat.divInt (b.den : Int) b.num = b⁻¹ := (Rat.inv_def b).symm
theorem less_iff (a b : Rat) : (a.num * (b.den : Int) < b.num * (a.den : Int)) ↔ a < b := (Rat.lt_iff a b).symm
theorem lowest (q : Rat) : Int.gcd q.num (q.den : Int) = 1 := q.reduced
theorem den_pos (q : Rat) : (1 : Int) ≤ (q.den : Int) := by have := q.den_nz; omega
theorem cross (t b : Int) (hb : b ≠ 0) : (Rat.divInt t b).num * b = t * ((Rat.divInt t b).den : Int) := by
  have h := Rat.num_divInt_den (Rat.divInt t b)
  exact (Rat.divInt_eq_divInt_iff (by have := (Rat.divInt t b).den_nz; omega) hb).mp h
theorem num_le (t : Int) {b : Int} (hb : b ≠ 0) : (Rat.divInt t b).num.natAbs ≤ t.natAbs := by
  have h := cross t b hb
  have h2 := Fm.den_pos (Rat.divInt t b)
  rw [← fr_num hb]
  have hg : (0 : Int) < ((Int.gcd t b : Nat) : Int) := by have := gcd_pos_right (a := t) hb; omega
  obtain ⟨k, hk⟩ : ((Int.gcd t b : Nat) : Int) ∣ t := Int.gcd_dvd_left t b
  generalize ((Int.gcd t b : Nat) : Int) = g at hg hk
  subst hk
  have le : k.natAbs ≤ (g * k).natAbs := by
    rw [Int.natAbs_mul]
    exact Nat.le_mul_of_pos_left _ (by omega)
  split
  · rw [show g * k = (-g) * (-k) by grind, Int.mul_fdiv_cancel_left _ (by omega)]
    rw [show (-g) * (-k) = g * k by grind]
    omega
  · rw [Int.mul_fdiv_cancel_left _ (by omega)]
    exact le
theorem den_le (t : Int) {b : Int} (hb : b ≠ 0) : (Rat.divInt t b).den ≤ b.natAbs := by
  rw [Rat.den_divInt, if_neg hb]
  exact Nat.div_le_self _ _
theorem num_eq (q : Rat) : (q.num : Rat) = q * (q.den : Rat) := by
  have h := Rat.num_divInt_den q
  rw [Rat.divInt_eq_div] at h
  have hd : ((q.den : Int) : Rat) ≠ 0 := by
    have := q.den_nz
    intro z
    rw [Rat.intCast_natCast] at z
    exact this (by simpa using z)
  rw [Rat.intCast_natCast] at h hd
  have h2 := Rat.div_mul_cancel (a := (q.num : Rat)) hd
  rw [h] at h2
  exact h2.symm
theorem fr_pos {t b : Int} (hb : 0 < b) : t / ((Int.gcd t b : Nat) : Int) = (Rat.divInt t b).num ∧ b / ((Int.gcd t b : Nat) : Int) = ((Rat.divInt t b).den : Int) := by
  have h1 := fr_num (t := t) (b := b) (by omega)
  have h2 := fr_den (t := t) (b := b) (by omega)
  rw [if_neg (by omega), Int.fdiv_eq_ediv_of_nonneg _ (by omega)] at h1 h2
  exact ⟨h1, h2⟩
theorem eq_divInt {q : Rat} {n m : Int} (hm : m ≠ 0) (h : q * (m : Rat) = (n : Rat)) : q = Rat.divInt n m := by
  rw [Rat.divInt_eq_div, ← h]
  have : (m : Rat) ≠ 0 := by simpa using hm
  exact (Rat.mul_div_cancel this).symm
theorem size_of {q : Rat} {n m : Int} (hm : m ≠ 0) (h : q * (m : Rat) = (n : Rat)) : q.num.natAbs ≤ n.natAbs ∧ q.den ≤ m.natAbs := by
  rw [eq_divInt hm h]
  exact ⟨num_le n hm, den_le n hm⟩
structure Sz (N : Nat) (q : Rat) : Prop where
  n : q.num.natAbs ≤ N
  d : q.den ≤ N
theorem Sz.mono {M N : Nat} {q : Rat} (h : Sz M q) (l : M ≤ N) : Sz N q := ⟨Nat.le_trans h.n l, Nat.le_trans h.d l⟩
theorem Sz.neg {N : Nat} {q : Rat} (h : Sz N q) : Sz N (-q) := ⟨by show (-q.num).natAbs ≤ N; rw [Int.natAbs_neg]; exact h.n, h.d⟩
theorem sz_cross (a b : Rat) (f : Rat) (n : Int) (h : f * ((a.den : Int) * (b.den : Int) : Int) = (n : Rat)) {M N : Nat} (ha : Sz M a) (hb : Sz N b) (hn : n.natAbs ≤ 2 * (M * N)) : Sz (2 * (M * N)) f := by
  have m0 : (a.den : Int) * (b.den : Int) ≠ 0 := Int.mul_ne_zero (by have := a.den_nz; omega) (by have := b.den_nz; omega)
  obtain ⟨h1, h2⟩ := size_of m0 h
  refine ⟨Nat.le_trans h1 hn, Nat.le_trans h2 ?_⟩
  rw [Int.natAbs_mul]
  have := Nat.mul_le_mul ha.d hb.d
  simp only [Int.natAbs_natCast]
  omega
theorem Sz.add {a b : Rat} {M N : Nat} (ha : Sz M a) (hb : Sz N b) : Sz (2 * (M * N)) (a + b) := by
  refine sz_cross a b _ (a.num * (b.den : Int) + b.num * (a.den : Int)) ?_ ha hb ?_
  · rw [Rat.intCast_mul, Rat.intCast_add, Rat.intCast_mul, Rat.intCast_mul, Rat.intCast_natCast, Rat.intCast_natCast, num_eq a, num_eq b]
    grind
  · have h1 := Nat.mul_le_mul ha.n hb.d
    have h2 := Nat.mul_le_mul hb.n ha.d
    have h3 := Int.natAbs_add_le (a.num * (b.den : Int)) (b.num * (a.den : Int))
    rw [Int.natAbs_mul, Int.natAbs_mul, Int.natAbs_natCast, Int.natAbs_natCast] at h3
    rw [Nat.mul_comm N M] at h2
    omega
theorem Sz.sub {a b : Rat} {M N : Nat} (ha : Sz M a) (hb : Sz N b) : Sz (2 * (M * N)) (a - b) := by
  rw [Rat.sub_eq_add_neg]
  exact ha.add hb.neg
theorem Sz.mul {a b : Rat} {M N : Nat} (ha : Sz M a) (hb : Sz N b) : Sz (2 * (M * N)) (a * b) := by
  refine sz_cross a b _ (a.num * b.num) ?_ ha hb ?_
  · rw [Rat.intCast_mul, Rat.intCast_mul, Rat.intCast_natCast, Rat.intCast_natCast, num_eq a, num_eq b]
    grind
  · have h1 := Nat.mul_le_mul ha.n hb.n
    rw [Int.natAbs_mul]
    omega
theorem Sz.inv {b : Rat} {N : Nat} (hb : Sz N b) (h0 : b ≠ 0) : Sz N b⁻¹ := by
  have hn : b.num ≠ 0 := fun z => h0 (Rat.num_eq_zero.mp z)
  have hq : b⁻¹ * ((b.num : Int) : Rat) = ((b.den : Int) : Rat) := by
    rw [num_eq b, Rat.intCast_natCast]
    grind
  obtain ⟨h1, h2⟩ := size_of hn hq
  exact ⟨by have := hb.d; rw [Int.natAbs_natCast] at h1; omega, Nat.le_trans h2 hb.n⟩
theorem Sz.div {a b : Rat} {M N : Nat} (ha : Sz M a) (hb : Sz N b) (h0 : b ≠ 0) : Sz (2 * (M * N)) (a / b) := by
  rw [Rat.div_def]
  exact ha.mul (hb.inv h0)
end Fm
namespace Fm
theorem den_dvd (t : Int) {b : Int} (hb : b ≠ 0) : (Rat.divInt t b).den ∣ b.natAbs := by
  have h := congrArg Int.natAbs (cross t b hb)
  rw [Int.natAbs_mul, Int.natAbs_mul] at h
  have h2 : (Rat.divInt t b).den ∣ (Rat.divInt t b).num.natAbs * b.natAbs := ⟨t.natAbs, by rw [h, Nat.mul_comm]; simp⟩
  have h3 : Nat.Coprime (Rat.divInt t b).den (Rat.divInt t b).num.natAbs := Nat.Coprime.symm (Rat.divInt t b).reduced
  exact h3.dvd_of_dvd_mul_left h2
theorem den_of {q : Rat} {n : Int} {L : Nat} (hL : L ≠ 0) (h : q * (L : Rat) = (n : Rat)) : q.den ∣ L := by
  have e : q = Rat.divInt n (L : Int) := eq_divInt (by omega) (by rw [Rat.intCast_natCast]; exact h)
  rw [e]
  have := den_dvd n (b := (L : Int)) (by omega)
  simpa using this
theorem top_of {q : Rat} {L : Nat} (h : q.den ∣ L) : q * (L : Rat) = ((q.num * ((L / q.den : Nat) : Int) : Int) : Rat) := by
  obtain ⟨c, rfl⟩ := h
  have hd : 0 < q.den := Nat.pos_of_ne_zero q.den_nz
  rw [Nat.mul_div_cancel_left _ hd, Rat.intCast_mul, num_eq q, Rat.natCast_mul, Rat.intCast_natCast]
  grind
structure Cm (L B : Nat) (q : Rat) : Prop where
  d : q.den ∣ L
  lo : -(B : Rat) ≤ q
  hi : q ≤ (B : Rat)
theorem cast_le {a b : Nat} (h : a ≤ b) : (a : Rat) ≤ (b : Rat) := by
  rw [← Rat.intCast_natCast, ← Rat.intCast_natCast]
  exact Rat.intCast_le_intCast.mpr (by omega)
theorem cast_nn (a : Nat) : (0 : Rat) ≤ (a : Rat) := cast_le (Nat.zero_le a)
theorem Cm.mono {L B L' B' : Nat} {q : Rat} (h : Cm L B q) (hl : L ∣ L') (hb : B ≤ B') : Cm L' B' q := by
  have := cast_le hb
  exact ⟨Nat.dvd_trans h.d hl, by have := h.lo; grind, by have := h.hi; grind⟩
theorem Cm.neg {L B : Nat} {q : Rat} (h : Cm L B q) : Cm L B (-q) := ⟨h.d, by have := h.hi; grind, by have := h.lo; grind⟩
theorem Cm.add {L B C : Nat} {p q : Rat} (hp : Cm L B p) (hq : Cm L C q) : Cm L (B + C) (p + q) := by
  refine ⟨?_, ?_, ?_⟩
  · by_cases hL : L = 0
    · rw [hL]; exact Nat.dvd_zero _
    · refine den_of hL (n := p.num * ((L / p.den : Nat) : Int) + q.num * ((L / q.den : Nat) : Int)) ?_
      rw [Rat.intCast_add, ← top_of hp.d, ← top_of hq.d]
      grind
  · rw [Rat.natCast_add]; have := hp.lo; have := hq.lo; grind
  · rw [Rat.natCast_add]; have := hp.hi; have := hq.hi; grind
theorem Cm.sub {L B C : Nat} {p q : Rat} (hp : Cm L B p) (hq : Cm L C q) : Cm L (B + C) (p - q) := by
  rw [Rat.sub_eq_add_neg]; exact hp.add hq.neg
theorem mul_bd {a b B C : Rat} (h1 : -B ≤ a) (h2 : a ≤ B) (h3 : -C ≤ b) (h4 : b ≤ C) : a * b ≤ B * C ∧ -(B * C) ≤ a * b := by
  have k1 : 0 ≤ (B - a) * (C + b) := Rat.mul_nonneg (by grind) (by grind)
  have k2 : 0 ≤ (B + a) * (C - b) := Rat.mul_nonneg (by grind) (by grind)
  have k3 : 0 ≤ (B - a) * (C - b) := Rat.mul_nonneg (by grind) (by grind)
  have k4 : 0 ≤ (B + a) * (C + b) := Rat.mul_nonneg (by grind) (by grind)
  constructor <;> grind
theorem Cm.mul {L B M C : Nat} {p q : Rat} (hp : Cm L B p) (hq : Cm M C q) : Cm (L * M) (B * C) (p * q) := by
  refine ⟨?_, ?_, ?_⟩
  · by_cases hL : L * M = 0
    · rw [hL]; exact Nat.dvd_zero _
    · refine den_of hL (n := (p.num * ((L / p.den : Nat) : Int)) * (q.num * ((M / q.den : Nat) : Int))) ?_
      rw [Rat.intCast_mul, ← top_of hp.d, ← top_of hq.d, Rat.natCast_mul]
      grind
  · rw [Rat.natCast_mul]; exact (mul_bd hp.lo hp.hi hq.lo hq.hi).2
  · rw [Rat.natCast_mul]; exact (mul_bd hp.lo hp.hi hq.lo hq.hi).1
theorem Cm.int {i : Int} {B : Nat} (h : i.natAbs ≤ B) : Cm 1 B (i : Rat) := by
  refine ⟨by simp, ?_, ?_⟩
  · rw [← Rat.intCast_natCast, ← Rat.intCast_neg]; exact Rat.intCast_le_intCast.mpr (by omega)
  · rw [← Rat.intCast_natCast]; exact Rat.intCast_le_intCast.mpr (by omega)
theorem Cm.zero {L B : Nat} : Cm L B 0 := by
  have := cast_nn B
  exact ⟨by simp, by grind, this⟩
theorem Cm.num {L B : Nat} {q : Rat} (h : Cm L B q) : q.num.natAbs ≤ B * q.den := by
  have hd : (0 : Rat) ≤ (q.den : Rat) := cast_nn _
  have e := num_eq q
  have h1 : (q.num : Rat) ≤ ((B * q.den : Nat) : Rat) := by
    rw [e, Rat.natCast_mul]; exact Rat.mul_le_mul_of_nonneg_right h.hi hd
  have h2 : -((B * q.den : Nat) : Rat) ≤ (q.num : Rat) := by
    rw [e, Rat.natCast_mul, ← Rat.neg_mul]; exact Rat.mul_le_mul_of_nonneg_right h.lo hd
  rw [← Rat.intCast_natCast] at h1 h2
  rw [← Rat.intCast_neg] at h2
  have h3 := Rat.intCast_le_intCast.mp h1
  have h4 := Rat.intCast_le_intCast.mp h2
  omega
theorem Cm.den {L B : Nat} {q : Rat} (h : Cm L B q) (hL : 0 < L) : q.den ≤ L := Nat.le_of_dvd hL h.d
theorem Cm.sz {L B : Nat} {q : Rat} (h : Cm L B q) (hL : 0 < L) : Sz ((B + 1) * L) q := by
  have h1 := h.num
  have h2 := h.den hL
  have h3 : B * q.den ≤ B * L := Nat.mul_le_mul_left _ h2
  have h4 : (B + 1) * L = B * L + L := by rw [Nat.add_mul, Nat.one_mul]
  exact ⟨by omega, by omega⟩
theorem Cm.of {q : Rat} {L B : Nat} (hd : q.den ∣ L) (hn : q.num.natAbs ≤ B * q.den) : Cm L B q := by
  have hp : (0 : Rat) < (q.den : Rat) := by
    rw [← Rat.intCast_natCast]; exact Rat.intCast_pos.mpr (by have := q.den_nz; omega)
  have e := num_eq q
  have h1 : (q.num : Rat) ≤ (B : Rat) * (q.den : Rat) := by
    rw [← Rat.natCast_mul, ← Rat.intCast_natCast]; exact Rat.intCast_le_intCast.mpr (by omega)
  have h2 : -((B : Rat) * (q.den : Rat)) ≤ (q.num : Rat) := by
    rw [← Rat.natCast_mul, ← Rat.intCast_natCast, ← Rat.intCast_neg]; exact Rat.intCast_le_intCast.mpr (by omega)
  rw [e] at h1 h2
  refine ⟨hd, ?_, ?_⟩
  · refine Rat.not_lt.mp fun c => ?_
    have := Rat.mul_lt_mul_of_pos_right c hp
    rw [Rat.neg_mul] at this
    grind
  · refine Rat.not_lt.mp fun c => ?_
    have := Rat.mul_lt_mul_of_pos_right c hp
    grind
theorem Cm.div {t : Int} {b L B : Nat} (hb : 0 < b) (hd : b ∣ L) (ht : t.natAbs ≤ B * b) : Cm L B (Rat.divInt t (b : Int)) := by
  have h1 := den_dvd t (b := (b : Int)) (by omega)
  have hc := cross t (b : Int) (by omega)
  refine Cm.of (Nat.dvd_trans (by simpa using h1) hd) ?_
  have h2 : (Rat.divInt t (b : Int)).num.natAbs * b = t.natAbs * (Rat.divInt t (b : Int)).den := by
    have := congrArg Int.natAbs hc
    rw [Int.natAbs_mul, Int.natAbs_mul] at this
    simpa using this
  refine Nat.le_of_mul_le_mul_right ?_ hb
  rw [h2]
  calc t.natAbs * (Rat.divInt t (b : Int)).den ≤ (B * b) * (Rat.divInt t (b : Int)).den := Nat.mul_le_mul_right _ ht
    _ = B * (Rat.divInt t (b : Int)).den * b := by rw [Nat.mul_assoc, Nat.mul_comm b, Nat.mul_assoc]
noncomputable def Dg (n : Nat) (q : Rat) : Prop := Sz (10 ^ n) q
theorem ten_le {a b : Nat} (h : a ≤ b) : 10 ^ a ≤ 10 ^ b := Nat.pow_le_pow_right (by decide) h
theorem ten_two (a b : Nat) : 2 * (10 ^ a * 10 ^ b) ≤ 10 ^ (a + b + 1) := by
  rw [Nat.pow_succ, Nat.pow_add]
  omega
theorem Dg.mono {a b : Nat} {q : Rat} (h : Dg a q) (l : a ≤ b) : Dg b q := Sz.mono h (ten_le l)
theorem Dg.add {a b : Nat} {p q : Rat} (hp : Dg a p) (hq : Dg b q) : Dg (a + b + 1) (p + q) := (Sz.add hp hq).mono (ten_two a b)
theorem Dg.sub {a b : Nat} {p q : Rat} (hp : Dg a p) (hq : Dg b q) : Dg (a + b + 1) (p - q) := (Sz.sub hp hq).mono (ten_two a b)
theorem Dg.mul {a b : Nat} {p q : Rat} (hp : Dg a p) (hq : Dg b q) : Dg (a + b + 1) (p * q) := (Sz.mul hp hq).mono (ten_two a b)
theorem Dg.div {a b : Nat} {p q : Rat} (hp : Dg a p) (hq : Dg b q) (h0 : q ≠ 0) : Dg (a + b + 1) (p / q) := (Sz.div hp hq h0).mono (ten_two a b)
theorem Dg.neg {a : Nat} {p : Rat} (hp : Dg a p) : Dg a (-p) := Sz.neg hp
theorem Dg.of {n : Nat} {t b : Int} (hb : b ≠ 0) (h1 : t.natAbs ≤ 10 ^ n) (h2 : b.natAbs ≤ 10 ^ n) : Dg n (Rat.divInt t b) := ⟨Nat.le_trans (num_le t hb) h1, Nat.le_trans (den_le t hb) h2⟩
theorem Dg.zero {n : Nat} : Dg n 0 := ⟨Nat.zero_le _, Nat.pow_pos (n := n) (by decide)⟩
theorem Dg.one {n : Nat} : Dg n 1 := ⟨Nat.pow_pos (n := n) (by decide), Nat.pow_pos (n := n) (by decide)⟩
theorem Dg.int {n : Nat} {i : Int} (h : i.natAbs ≤ 10 ^ n) : Dg n (i : Rat) := ⟨h, Nat.pow_pos (n := n) (by decide)⟩
noncomputable def absR (q : Rat) : Rat := ⟨(q.num.natAbs : Int), q.den, q.den_nz, by simpa using q.reduced⟩
theorem absR_num (q : Rat) : (absR q).num = ((q.num.natAbs : Nat) : Int) := rfl
theorem absR_pos {q : Rat} (h : 0 ≤ q) : absR q = q := by
  have := Rat.num_nonneg.mpr h
  exact Rat.ext (by rw [absR_num]; omega) rfl
theorem absR_neg {q : Rat} (h : q ≤ 0) : absR q = -q := by
  have h1 : 0 ≤ -q := by grind
  have := Rat.num_nonneg.mpr h1
  exact Rat.ext (by rw [absR_num]; show _ = -q.num; have e : (-q).num = -q.num := rfl; omega) rfl
theorem absR_nn (q : Rat) : 0 ≤ absR q := Rat.num_nonneg.mp (by rw [absR_num]; omega)
theorem absR_cases (q : Rat) : (0 ≤ q ∧ absR q = q) ∨ (q ≤ 0 ∧ absR q = -q) := by
  rcases Rat.le_total (a := 0) (b := q) with h | h
  · exact .inl ⟨h, absR_pos h⟩
  · exact .inr ⟨h, absR_neg h⟩
theorem Cm.abs {L B : Nat} {q : Rat} (h : Cm L B q) : Cm L B (absR q) := by
  rcases absR_cases q with ⟨_, e⟩ | ⟨_, e⟩
  · rw [e]; exact h
  · rw [e]; exact h.neg
theorem Dg.abs {n : Nat} {q : Rat} (h : Dg n q) : Dg n (absR q) := ⟨by rw [absR_num]; exact h.n, h.d⟩
theorem Cm.dg {L B l b : Nat} {q : Rat} (h : Cm L B q) (hL : 0 < L) (h1 : L ≤ 10 ^ l) (h2 : B ≤ 10 ^ b) : Dg (b + l + 1) q := by
  refine (h.sz hL).mono ?_
  have e : (B + 1) * L ≤ (10 ^ b + 10 ^ b) * 10 ^ l := Nat.mul_le_mul (by have := Nat.pow_pos (n := b) (show 0 < 10 by decide); omega) h1
  have := ten_two b l
  rw [Nat.add_mul (10 ^ b)] at e
  omega
end Fm
namespace Dl
open PySem PySem.Spec PyProof.Rows L2 Lx
inductive Sl where
  | dat (d : PyData)
  | own (ds : List PyData)
    | exc (C : Addr)
    | two (xs ys : List PyData)
    | fz (as : List Addr) (d : PyData)
noncomputable abbrev DEn := List (Option Sl)
noncomputable def slot : DEn → Nat → Option Sl
  | [], _ => none
  | x :: _, 0 => x
  | _ :: xs, n + 1 => slot xs n
noncomputable def put (s : Option Sl) : Nat → DEn → DEn
  | _, [] => []
  | 0, _ :: xs => s :: xs
  | n + 1, x :: xs => x :: put s n xs
theorem slot_put (s : Option Sl) : ∀ (i j : Nat) (δ : DEn), slot (put s i δ) j = if j = i ∧ i < δ.length then s else slot δ j
  | i, j, [] => by cases i <;> simp [put, slot]
  | 0, 0, x :: xs => by simp [put, slot]
  | 0, j + 1, x :: xs => by simp [put, slot]
  | i + 1, 0, x :: xs => by simp [put, slot]
  | i + 1, j + 1, x :: xs => by
    have := slot_put s i j xs
    simp only [put, slot, this, List.length_cons]
    simp
theorem put_len (s : Option Sl) : ∀ (i : Nat) (δ : DEn), (put s i δ).length = δ.length
  | i, [] => by cases i <;> rfl
  | 0, x :: xs => rfl
  | i + 1, x :: xs => by simp [put, put_len s i xs]
theorem sqT_same {K : PySem.W.Frag} {H H' : Hp} {a : Addr} {xs : List V} (e : Same H H') (h : SqT K H a xs) : SqT K H' a xs := by
  rcases h with (h | ⟨o, h⟩) | h
  · exact .inl (.inl (e _ _ h))
  · exact .inl (.inr ⟨o, e _ _ h⟩)
  · exact .inr h
mutual
theorem dv_same {K : PySem.W.Frag} {H H' : Hp} (s : Same H H') : ∀ {x : V} {d : PyData}, DV K H x d → DV K H' x d
  | _, _, .non => .non
  | _, _, .bl b => .bl b
  | _, _, .int i => .int i
  | _, _, .str x => .str x
  | _, _, .tup h hs => .tup (sqT_same s h) (dvs_same s hs)
  | _, _, .lst h hs => .lst (s.seq h) (dvs_same s hs)
  | _, _, .dct h => .dct (s _ _ h)
theorem dvs_same {K : PySem.W.Frag} {H H' : Hp} (s : Same H H') : ∀ {xs : List V} {ds : List PyData}, DVs K H xs ds → DVs K H' xs ds
  | _, _, .nil => .nil
  | _, _, .cons h t => .cons (dv_same s h) (dvs_same s t)
end
mutual
noncomputable def flatD : PyData → Bool
  | .none => true
  | .bool _ => true
  | .int _ => true
  | .str _ => true
  | .list _ => false
  | .tuple ds => flatDs ds
  | .dict _ => true
noncomputable def flatDs : List PyData → Bool
  | [] => true
  | d :: ds => flatD d && flatDs ds
end
noncomputable def Sub (G H : Hp) : Prop := ∀ b, G b = H b ∨ (G b = none ∧ ∃ xs, H b = some (.lst xs))
theorem Sub.same {G H : Hp} (s : Sub G H) : Same G H := fun b o e => by
  rcases s b with h | ⟨h, _⟩
  · rw [← h]; exact e
  · rw [h] at e; cases e
theorem Sub.refl (H : Hp) : Sub H H := fun _ => .inl rfl
theorem Sub.other {G H : Hp} (s : Sub G H) {b : Addr} {o : HO} (h : H b = some o) (n : ∀ xs, o ≠ .lst xs) : G b = some o := by
  rcases s b with e | ⟨_, xs, e⟩
  · rw [e]; exact h
  · rw [h] at e; cases e; exact absurd rfl (n xs)
mutual
theorem dv_flat {K : PySem.W.Frag} {G H : Hp} (s : ∀ b o, H b = some o → (∀ xs, o ≠ .lst xs) → G b = some o) : ∀ {x : V} {d : PyData}, DV K H x d → flatD d = true → DV K G x d
  | _, _, .non, _ => .non
  | _, _, .bl b, _ => .bl b
  | _, _, .int i, _ => .int i
  | _, _, .str x, _ => .str x
  | _, _, .tup h hs, f => .tup (by
      rcases h with (h | ⟨o, h⟩) | h
      · exact .inl (.inl (s _ _ h (by intro xs z; cases z)))
      · exact .inl (.inr ⟨o, s _ _ h (by intro xs z; cases z)⟩)
      · exact .inr h) (dvs_flat s hs f)
  | _, _, .lst _ _, f => by cases f
  | _, _, .dct h, _ => .dct (s _ _ h (by intro xs z; cases z))
theorem dvs_flat {K : PySem.W.Frag} {G H : Hp} (s : ∀ b o, H b = some o → (∀ xs, o ≠ .lst xs) → G b = some o) : ∀ {xs : List V} {ds : List PyData}, DVs K H xs ds → flatDs ds = true → DVs K G xs ds
  | _, _, .nil, _ => .nil
  | _, _, .cons h t, f => by
    simp only [flatDs, Bool.and_eq_true] at f
    exact .cons (dv_flat s h f.1) (dvs_flat s t f.2)
end
end Dl
namespace Lx
open PySem PySem.Spec PyProof.Rows L2
theorem DVs.len {K : PySem.W.Frag} {H : Hp} : ∀ {xs : List V} {ds : List PyData}, DVs K H xs ds → xs.length = ds.length
  | _, _, .nil => rfl
  | _, _, .cons _ t => congrArg (· + 1) (DVs.len t)
theorem DVs.at {K : PySem.W.Frag} {H : Hp} : ∀ {xs : List V} {ds : List PyData} {i : Nat} {d : PyData}, DVs K H xs ds → ds[i]? = some d → ∃ x, xs[i]? = some x ∧ DV K H x d
  | _, _, _, _, .nil, e => by simp at e
  | _, _, 0, _, .cons h _, e => by
    simp at e
    subst e
    exact ⟨_, rfl, h⟩
  | _, _, i + 1, _, .cons _ t, e => by
    obtain ⟨x, h1, h2⟩ := DVs.at (i := i) t (by simpa using e)
    exact ⟨x, by simpa using h1, h2⟩
theorem DVs.append {K : PySem.W.Frag} {H : Hp} : ∀ {xs ys : List V} {ds es : List PyData}, DVs K H xs ds → DVs K H ys es → DVs K H (xs ++ ys) (ds ++ es)
  | _, _, _, _, .nil, h => h
  | _, _, _, _, .cons r t, h => .cons r (DVs.append t h)
theorem DVs.take {K : PySem.W.Frag} {H : Hp} : ∀ {xs : List V} {ds : List PyData} (n : Nat), DVs K H xs ds → DVs K H (xs.take n) (ds.take n)
  | _, _, 0, _ => by simp only [List.take_zero]; exact .nil
  | _, _, _ + 1, .nil => .nil
  | _, _, n + 1, .cons r t => .cons r (DVs.take n t)
theorem DVs.drop {K : PySem.W.Frag} {H : Hp} : ∀ {xs : List V} {ds : List PyData} (n : Nat), DVs K H xs ds → DVs K H (xs.drop n) (ds.drop n)
  | _, _, 0, h => by simp only [List.drop_zero]; exact h
  | _, _, _ + 1, .nil => .nil
  | _, _, n + 1, .cons _ t => DVs.drop n t
theorem DVs.set {K : PySem.W.Frag} {H : Hp} {x : V} {d : PyData} (r : DV K H x d) : ∀ {xs : List V} {ds : List PyData} (i : Nat), DVs K H xs ds → DVs K H (xs.set i x) (ds.set i d)
  | _, _, _, .nil => .nil
  | _, _, 0, .cons _ t => .cons r t
  | _, _, i + 1, .cons q t => .cons q (DVs.set r i t)
theorem DVs.rev {K : PySem.W.Frag} {H : Hp} : ∀ {xs : List V} {ds : List PyData}, DVs K H xs ds → DVs K H xs.reverse ds.reverse
  | _, _, .nil => .nil
  | _, _, .cons r t => by
    rw [List.reverse_cons, List.reverse_cons]
    exact DVs.append (DVs.rev t) (.cons r .nil)
end Lx
namespace Dl
open PySem PySem.Spec PyProof.Rows L2 Lx
inductive FzIs (K : PySem.W.Frag) (G : Hp) : V → List Addr → PyData → Prop
  | pair {t a b : Addr} {vs ws : List V} {xs ys : List PyData} : SqT K G t [.ref a, .ref b] → a ≠ b → G a = some (.lst vs) → G b = some (.lst ws) → DVs K G vs xs → DVs K G ws ys → FzIs K G (.ref t) [a, b] (.tuple [.list xs, .list ys])
  | one {a : Addr} {vs : List V} {ds : List PyData} : G a = some (.lst vs) → DVs K G vs ds → FzIs K G (.ref a) [a] (.list ds)
theorem FzIs.same {K : PySem.W.Frag} {G G' : Hp} {v : V} {as : List Addr} {d : PyData} (s : Same G G') (h : FzIs K G v as d) : FzIs K G' v as d := by
  cases h with
  | pair h1 h2 h3 h4 h5 h6 => exact .pair (sqT_same s h1) h2 (s _ _ h3) (s _ _ h4) (dvs_same s h5) (dvs_same s h6)
  | one h1 h2 => exact .one (s _ _ h1) (dvs_same s h2)
theorem FzIs.dv {K : PySem.W.Frag} {G : Hp} {v : V} {as : List Addr} {d : PyData} (h : FzIs K G v as d) : DV K G v d := by
  cases h with
  | pair h1 h2 h3 h4 h5 h6 => exact .tup h1 (.cons (.lst (SqL.of h3) h5) (.cons (.lst (SqL.of h4) h6) .nil))
  | one h1 h2 => exact .lst (SqL.of h1) h2
noncomputable def SlIs (K : PySem.W.Frag) (G H : Hp) (v : V) : Sl → Prop
  | .dat d => DV K G v d
  | .own ds => ∃ a vs, v = .ref a ∧ G a = none ∧ H a = some (.lst vs) ∧ DVs K G vs ds
  | .exc C => ∃ x, v = .ref x ∧ G x = some (.ext (IsExc x C))
  | .two _ _ => False
  | .fz as d => FzIs K G v as d
structure Sees (K : PySem.W.Frag) (H₀ G : Hp) (δ : DEn) (σ : L2.St) (H : Hp) : Prop where
  old : Same H₀ G
  sub : Sub G H
  len : δ.length ≤ σ.length
  has : ∀ i s, slot δ i = some s → ∃ v, σ[i]? = some (some v) ∧ SlIs K G H v s
  sep : ∀ i j xs ys a, slot δ i = some (.own xs) → slot δ j = some (.own ys) → σ[i]? = some (some (.ref a)) → σ[j]? = some (some (.ref a)) → i = j
structure Ext (G H G' H' : Hp) : Prop where
  g : Same G G'
  h : Same H H'
  s : Sub G' H'
  n : ∀ b o, G' b = some o → G b = some o ∨ H b = none
theorem Ext.refl {G H : Hp} (s : Sub G H) : Ext G H G H := ⟨Same.refl _, Same.refl _, s, fun _ _ h => .inl h⟩
theorem Ext.trans {G H G1 H1 G2 H2 : Hp} (a : Ext G H G1 H1) (b : Ext G1 H1 G2 H2) : Ext G H G2 H2 :=
  ⟨a.g.trans b.g, a.h.trans b.h, b.s, fun c o h => by
    rcases b.n c o h with z | z
    · exact a.n c o z
    · exact .inr (a.h.free z)⟩
theorem Ext.keep {G H G' H' : Hp} (e : Ext G H G' H') {a : Addr} (hg : G a = none) {o : HO} (hh : H a = some o) : G' a = none := by
  cases q : G' a with
  | none => rfl
  | some u =>
    rcases e.n a u q with z | z
    · rw [hg] at z; cases z
    · rw [hh] at z; cases z
section
variable {K : PySem.W.Frag} {H₀ G H G' H' : Hp} {δ : DEn} {σ : L2.St}
theorem SlIs.ext {v : V} {s : Sl} (e : Ext G H G' H') (h : SlIs K G H v s) : SlIs K G' H' v s := by
  cases s with
  | dat d => exact dv_same e.g h
  | own ds =>
    obtain ⟨a, vs, rfl, hg, hh, hd⟩ := h
    exact ⟨a, vs, rfl, e.keep hg hh, e.h _ _ hh, dvs_same e.g hd⟩
  | two xs ys => exact h.elim
  | fz as d => exact FzIs.same e.g h
  | exc C =>
    obtain ⟨x, rfl, hx⟩ := h
    exact ⟨x, rfl, e.g _ _ hx⟩
theorem Sees.ext (S : Sees K H₀ G δ σ H) (e : Ext G H G' H') : Sees K H₀ G' δ σ H' :=
  ⟨S.old.trans e.g, e.s, S.len, fun i s h => by
    obtain ⟨v, h1, h2⟩ := S.has i s h
    exact ⟨v, h1, h2.ext e⟩, S.sep⟩
theorem Sees.refl (S : Sees K H₀ G δ σ H) : Ext G H G H := .refl S.sub
theorem Sees.oldH (S : Sees K H₀ G δ σ H) : Same H₀ H := S.old.trans S.sub.same
theorem slot_lt : ∀ {δ : DEn} {i : Nat} {s : Sl}, slot δ i = some s → i < δ.length
  | [], _, _, h => by cases h
  | _ :: _, 0, _, _ => Nat.zero_lt_succ _
  | _ :: xs, i + 1, s, h => Nat.succ_lt_succ (slot_lt (δ := xs) (i := i) (s := s) h)
theorem Sees.setS {v : V} {s : Sl} (S : Sees K H₀ G δ σ H) (i : Nat) (h : SlIs K G H v s) (hs : ∀ ds j es a, s = .own ds → slot δ j = some (.own es) → σ[j]? = some (some (.ref a)) → v ≠ .ref a) : Sees K H₀ G (put (some s) i δ) (σ.set i (some v)) H := by
  have look : ∀ j u, slot (put (some s) i δ) j = some u → (j = i ∧ u = s ∧ (σ.set i (some v))[j]? = some (some v)) ∨ (j ≠ i ∧ slot δ j = some u ∧ (σ.set i (some v))[j]? = σ[j]?) := fun j u hj => by
    rw [slot_put] at hj
    split at hj
    · rename_i hc
      obtain ⟨rfl, hl⟩ := hc
      cases hj
      exact .inl ⟨rfl, rfl, by rw [List.getElem?_set_self (Nat.lt_of_lt_of_le hl S.len)]⟩
    · rename_i hc
      have hji : j ≠ i := fun z => hc ⟨z, by rw [← z]; exact slot_lt hj⟩
      exact .inr ⟨hji, hj, by rw [List.getElem?_set_ne (Ne.symm hji)]⟩
  refine ⟨S.old, S.sub, by rw [put_len, List.length_set]; exact S.len, fun j u hj => ?_, fun j k xs ys a hj hk e1 e2 => ?_⟩
  · rcases look j u hj with ⟨rfl, rfl, e⟩ | ⟨_, h1, e⟩
    · exact ⟨v, e, h⟩
    · rw [e]; exact S.has j u h1
  · rcases look j _ hj with ⟨rfl, z1, e3⟩ | ⟨n1, h1, e3⟩ <;> rcases look k _ hk with ⟨rfl, z2, e4⟩ | ⟨n2, h2, e4⟩
    · rfl
    · rw [e3] at e1; rw [e4] at e2
      cases e1
      exact absurd rfl (hs xs k ys a z1.symm h2 e2)
    · rw [e3] at e1; rw [e4] at e2
      cases e2
      exact absurd rfl (hs ys j xs a z2.symm h1 e1)
    · rw [e3] at e1; rw [e4] at e2
      exact S.sep j k xs ys a h1 h2 e1 e2
theorem Sees.setD {v : V} {d : PyData} (S : Sees K H₀ G δ σ H) (i : Nat) (h : DV K G v d) : Sees K H₀ G (put (some (.dat d)) i δ) (σ.set i (some v)) H :=
  S.setS i (s := .dat d) h fun _ _ _ _ z => nomatch z
theorem Sees.ownAt (S : Sees K H₀ G δ σ H) {i : Nat} {ds : List PyData} (h : slot δ i = some (.own ds)) : ∃ a vs, σ[i]? = some (some (.ref a)) ∧ G a = none ∧ H a = some (.lst vs) ∧ DVs K G vs ds := by
  obtain ⟨v, h1, a, vs, rfl, h2, h3, h4⟩ := S.has i _ h
  exact ⟨a, vs, h1, h2, h3, h4⟩
theorem Sees.setO {a : Addr} {vs : List V} {ds : List PyData} (S : Sees K H₀ G δ σ H) (e : Ext G H G' H') (i : Nat) (hn : H a = none) (hg : G' a = none) (hh : H' a = some (.lst vs)) (hd : DVs K G' vs ds) :
    Sees K H₀ G' (put (some (.own ds)) i δ) (σ.set i (some (.ref a))) H' :=
  (S.ext e).setS i (s := .own ds) ⟨a, vs, rfl, hg, hh, hd⟩ fun _ j es b _ h1 h2 z => by
    cases z
    obtain ⟨c, ws, q1, q2, q3, q4⟩ := S.ownAt h1
    rw [h2] at q1
    cases q1
    rw [hn] at q3; cases q3
theorem Sees.updO {i : Nat} {a : Addr} {ds es : List PyData} {vs : List V} (S : Sees K H₀ G δ σ H) (h : slot δ i = some (.own ds)) (ha : σ[i]? = some (some (.ref a))) (hd : DVs K G vs es) :
    Sees K H₀ G (put (some (.own es)) i δ) σ (upd H a (.lst vs)) := by
  obtain ⟨b, ws, q1, q2, q3, q4⟩ := S.ownAt h
  rw [ha] at q1
  cases q1
  have look : ∀ j u, slot (put (some (.own es)) i δ) j = some u → (j = i ∧ u = .own es) ∨ (j ≠ i ∧ slot δ j = some u) := fun j u hj => by
    rw [slot_put] at hj
    split at hj
    · rename_i hc
      cases hj
      exact .inl ⟨hc.1, rfl⟩
    · rename_i hc
      exact .inr ⟨fun z => hc ⟨z, by rw [← z]; exact slot_lt hj⟩, hj⟩
  refine ⟨S.old, fun c => ?_, by rw [put_len]; exact S.len, fun j u hj => ?_, fun j k xs ys c hj hk e1 e2 => ?_⟩
  · by_cases z : c = a
    · subst z
      exact .inr ⟨q2, vs, upd_same⟩
    · rw [upd_ne z]; exact S.sub c
  · rcases look j u hj with ⟨rfl, rfl⟩ | ⟨n1, h1⟩
    · exact ⟨_, ha, a, vs, rfl, q2, upd_same, hd⟩
    · obtain ⟨v, h2, h3⟩ := S.has j u h1
      refine ⟨v, h2, ?_⟩
      cases u with
      | dat d => exact h3
      | two xs ys => exact h3.elim
      | fz as d => exact h3
      | exc C => exact h3
      | own xs =>
        obtain ⟨c, ws, rfl, p1, p2, p3⟩ := h3
        refine ⟨c, ws, rfl, p1, ?_, p3⟩
        rw [upd_ne (fun z => ?_)]
        · exact p2
        · subst z
          exact n1 (S.sep j i xs ds c h1 h h2 ha)
  · rcases look j _ hj with ⟨rfl, _⟩ | ⟨n1, h1⟩ <;> rcases look k _ hk with ⟨rfl, _⟩ | ⟨n2, h2⟩
    · rfl
    · exact S.sep j k ds ys c h h2 e1 e2
    · exact S.sep j k xs ds c h1 h e1 e2
    · exact S.sep j k xs ys c h1 h2 e1 e2
theorem Sees.frz {i : Nat} {ds : List PyData} (S : Sees K H₀ G δ σ H) (h : slot δ i = some (.own ds)) : ∃ G', Same G G' ∧ Sees K H₀ G' (put (some (.dat (.list ds))) i δ) σ H := by
  obtain ⟨a, vs, q1, q2, q3, q4⟩ := S.ownAt h
  have sg : Same G (upd G a (.lst vs)) := fun b o e => by rw [upd_ne (ne_of_none e q2)]; exact e
  refine ⟨upd G a (.lst vs), sg, S.old.trans sg, fun b => ?_, by rw [put_len]; exact S.len, fun j u hj => ?_, fun j k xs ys c hj hk e1 e2 => ?_⟩
  · by_cases z : b = a
    · subst z
      exact .inl (by rw [upd_same, q3])
    · rw [upd_ne z]; exact S.sub b
  · rw [slot_put] at hj
    split at hj
    · rename_i hc
      cases hj
      exact ⟨_, by rw [hc.1]; exact q1, .lst (SqL.of upd_same) (dvs_same sg q4)⟩
    · rename_i hc
      have hji : j ≠ i := fun z => hc ⟨z, by rw [← z]; exact slot_lt hj⟩
      obtain ⟨v, h2, h3⟩ := S.has j u hj
      refine ⟨v, h2, ?_⟩
      cases u with
      | dat d => exact dv_same sg h3
      | two xs ys => exact h3.elim
      | fz as d => exact FzIs.same sg h3
      | exc C =>
        obtain ⟨x, rfl, hx⟩ := h3
        exact ⟨x, rfl, sg _ _ hx⟩
      | own xs =>
        obtain ⟨c, ws, rfl, p1, p2, p3⟩ := h3
        refine ⟨c, ws, rfl, ?_, p2, dvs_same sg p3⟩
        rw [upd_ne (fun z => ?_)]
        · exact p1
        · subst z
          exact hji (S.sep j i xs ds c hj h h2 q1)
  · have look : ∀ j u, slot (put (some (.dat (.list ds))) i δ) j = some (.own u) → slot δ j = some (.own u) := fun j u hj => by
      rw [slot_put] at hj
      split at hj
      · cases hj
      · exact hj
    exact S.sep j k xs ys c (look _ _ hj) (look _ _ hk) e1 e2
end
noncomputable abbrev DX := Addr → Prop
noncomputable abbrev DE := DX → DEn → (PyData → Prop) → Prop
noncomputable abbrev DL := DX → DEn → (List PyData → Prop) → Prop
noncomputable abbrev DT := DX → DEn → (Bool → Prop) → Prop
noncomputable def ExOk (H₀ : Hp) (E : XK) (ex : DX) : Prop := ∀ C H', Same H₀ H' → ex C → E (.ref C) none H'
section
variable (K : PySem.W.Frag) (H₀ : Hp) (E : XK)
noncomputable def EvD (te : TE) (de : DE) : Prop := ∀ ex δ σ G H Qd Q, ExOk H₀ E ex → Sees K H₀ G δ σ H → de ex δ Qd → (∀ v d G' H', Ext G H G' H' → DV K G' v d → Qd d → Q v H') → te σ H Q
noncomputable def BvD (te : TE) (de : DE) : Prop := ∀ ex δ σ G H Qd Q, ExOk H₀ E ex → Sees K H₀ G δ σ H → de ex δ Qd → (∀ v d G' H', Ext G H G' H' → DV K H' v d → Qd d → Q v H') → te σ H Q
noncomputable def LvD (te : TE) (dl : DL) : Prop := ∀ ex δ σ G H Qd Q, ExOk H₀ E ex → Sees K H₀ G δ σ H → dl ex δ Qd → (∀ a vs ds G' H', Ext G H G' H' → SqL K H' a vs → DVs K G' vs ds → Qd ds → Q (.ref a) H') → te σ H Q
noncomputable def OvD (te : TE) (dl : DL) : Prop := ∀ ex δ σ G H Qd Q, ExOk H₀ E ex → Sees K H₀ G δ σ H → dl ex δ Qd → (∀ a vs ds G' H', Ext G H G' H' → H a = none → G' a = none → H' a = some (.lst vs) → DVs K G' vs ds → Qd ds → Q (.ref a) H') → te σ H Q
noncomputable def TvD (tt : TT) (dt : DT) : Prop := ∀ ex δ σ G H Qd Q, ExOk H₀ E ex → Sees K H₀ G δ σ H → dt ex δ Qd → (∀ b G' H', Ext G H G' H' → Qd b → Q b H') → tt σ H Q
noncomputable def AvD (ta : TA) (dl : DL) : Prop := ∀ ex δ σ G H Qd Q, ExOk H₀ E ex → Sees K H₀ G δ σ H → dl ex δ Qd → (∀ vs ds G' H', Ext G H G' H' → DVs K H' vs ds → Qd ds → Q vs H') → ta σ H Q
noncomputable def AvE (ta : TA) (n : Nat) (dl : DL) : Prop := ∀ ex δ σ G H Qd Q, ExOk H₀ E ex → Sees K H₀ G δ σ H → dl ex δ Qd → (∀ vs ds G' H', Ext G H G' H' → DVs K G' vs ds → ds.length = n → Qd ds → Q vs H') → ta σ H Q
end
noncomputable def dVar (i : Nat) (_ex : DX) (δ : DEn) (Q : PyData → Prop) : Prop := match slot δ i with
  | some (.dat d) => Q d
  | _ => False
noncomputable def dBVar (i : Nat) (_ex : DX) (δ : DEn) (Q : PyData → Prop) : Prop := match slot δ i with
  | some (.dat d) => Q d
  | some (.own ds) => Q (.list ds)
  | _ => False
noncomputable def dLVar (i : Nat) (_ex : DX) (δ : DEn) (Q : List PyData → Prop) : Prop := match slot δ i with
  | some (.dat (.list ds)) => Q ds
  | some (.own ds) => Q ds
  | _ => False
noncomputable def dC (d : PyData) (_ex : DX) (_δ : DEn) (Q : PyData → Prop) : Prop := Q d
noncomputable def dFz (dl : DL) (ex : DX) (δ : DEn) (Q : PyData → Prop) : Prop := dl ex δ fun ds => Q (.list ds)
noncomputable def dAsL (de : DE) (ex : DX) (δ : DEn) (Q : List PyData → Prop) : Prop := de ex δ fun d => match d with
  | .list ds => Q ds
  | _ => False
noncomputable def dNil (_ex : DX) (_δ : DEn) (Q : List PyData → Prop) : Prop := Q []
noncomputable def dCons (de : DE) (dl : DL) (ex : DX) (δ : DEn) (Q : List PyData → Prop) : Prop := de ex δ fun d => dl ex δ fun ds => Q (d :: ds)
section
variable {K : PySem.W.Frag} {H₀ : Hp} {E : XK} {te : TE} {de : DE} {dl : DL} {ta : TA}
theorem bv_ev (h : EvD K H₀ E te de) : BvD K H₀ E te de := fun ex δ σ G H Qd Q hx S q k =>
  h ex δ σ G H Qd Q hx S q fun v d G' H' e hd => k v d G' H' e (dv_same e.s.same hd)
theorem ev_ov (h : OvD K H₀ E te dl) : EvD K H₀ E te (dFz dl) := fun ex δ σ G H Qd Q hx S q k =>
  h ex δ σ G H _ Q hx S q fun a vs ds G' H' e hn hg hh hd qd => by
    have sg : Same G' (upd G' a (.lst vs)) := fun b o z => by rw [upd_ne (ne_of_none z hg)]; exact z
    refine k (.ref a) (.list ds) (upd G' a (.lst vs)) H' ⟨e.g.trans sg, e.h, fun b => ?_, fun b o z => ?_⟩ (.lst (SqL.of upd_same) (dvs_same sg hd)) qd
    · by_cases w : b = a
      · subst w; exact .inl (by rw [upd_same, hh])
      · rw [upd_ne w]; exact e.s b
    · by_cases w : b = a
      · subst w; exact .inr hn
      · rw [upd_ne w] at z; exact e.n b o z
theorem lv_ov (h : OvD K H₀ E te dl) : LvD K H₀ E te dl := fun ex δ σ G H Qd Q hx S q k =>
  h ex δ σ G H _ Q hx S q fun a vs ds G' H' e hn hg hh hd qd => k a vs ds G' H' e (SqL.of hh) hd qd
theorem dv_list {G : Hp} {v : V} {ds : List PyData} (h : DV K G v (.list ds)) : ∃ a vs, v = .ref a ∧ SqL K G a vs ∧ DVs K G vs ds := by
  cases h with
  | lst h1 h2 => exact ⟨_, _, rfl, h1, h2⟩
theorem dv_tuple {G : Hp} {v : V} {ds : List PyData} (h : DV K G v (.tuple ds)) : ∃ a vs, v = .ref a ∧ SqT K G a vs ∧ DVs K G vs ds := by
  cases h with
  | tup h1 h2 => exact ⟨_, _, rfl, h1, h2⟩
theorem dv_int {G : Hp} {v : V} {i : Int} (h : DV K G v (.int i)) : v = .int i := by cases h; rfl
theorem dv_bl {G : Hp} {v : V} {i : Bool} (h : DV K G v (.bool i)) : v = .bl i := by cases h; rfl
theorem dv_str {G : Hp} {v : V} {i : Str} (h : DV K G v (.str i)) : v = .str i := by cases h; rfl
theorem ev_var (i : Nat) : EvD K H₀ E (tVar i) (dVar i) := fun ex δ σ G H Qd Q hx S q k => by
  unfold dVar at q
  split at q
  · rename_i d hs
    obtain ⟨v, h1, h2⟩ := S.has i _ hs
    exact ⟨v, h1, k v d G H S.refl h2 q⟩
  · exact q.elim
theorem bv_var (i : Nat) : BvD K H₀ E (tVar i) (dBVar i) := fun ex δ σ G H Qd Q hx S q k => by
  unfold dBVar at q
  split at q
  · rename_i d hs
    obtain ⟨v, h1, h2⟩ := S.has i _ hs
    exact ⟨v, h1, k v d G H S.refl (dv_same S.sub.same h2) q⟩
  · rename_i ds hs
    obtain ⟨a, vs, h1, h2, h3, h4⟩ := S.ownAt hs
    exact ⟨_, h1, k _ _ G H S.refl (.lst (SqL.of h3) (dvs_same S.sub.same h4)) q⟩
  · exact q.elim
theorem lv_var (i : Nat) : LvD K H₀ E (tVar i) (dLVar i) := fun ex δ σ G H Qd Q hx S q k => by
  unfold dLVar at q
  split at q
  · rename_i ds hs
    obtain ⟨v, h1, h2⟩ := S.has i _ hs
    obtain ⟨a, vs, rfl, h3, h4⟩ := dv_list h2
    exact ⟨_, h1, k a vs ds G H S.refl (S.sub.same.seq h3) h4 q⟩
  · rename_i ds hs
    obtain ⟨a, vs, h1, h2, h3, h4⟩ := S.ownAt hs
    exact ⟨_, h1, k a vs ds G H S.refl (SqL.of h3) h4 q⟩
  · exact q.elim
theorem ev_c {v : V} {d : PyData} (h : ∀ G : Hp, DV K G v d) : EvD K H₀ E (tC v) (dC d) := fun ex δ σ G H Qd Q hx S q k => k v d G H S.refl (h G) q
theorem ev_int {i : Int} : EvD K H₀ E (tC (.int i)) (dC (.int i)) := ev_c fun _ => .int i
theorem ev_bl {i : Bool} : EvD K H₀ E (tC (.bl i)) (dC (.bool i)) := ev_c fun _ => .bl i
theorem ev_str {i : Str} : EvD K H₀ E (tC (.str i)) (dC (.str i)) := ev_c fun _ => .str i
theorem av_nil : AvD K H₀ E tNil dNil := fun ex δ σ G H Qd Q hx S q k => k [] [] G H S.refl .nil q
theorem av_cons (h : BvD K H₀ E te de) (t : AvD K H₀ E ta dl) : AvD K H₀ E (tCons te ta) (dCons de dl) := fun ex δ σ G H Qd Q hx S q k =>
  h ex δ σ G H _ _ hx S q fun v d G1 H1 e1 hd q1 => t ex δ σ G1 H1 _ _ hx (S.ext e1) q1 fun vs ds G2 H2 e2 hds q2 =>
    k (v :: vs) (d :: ds) G2 H2 (e1.trans e2) (.cons (dv_same e2.h hd) hds) q2
theorem ae_nil : AvE K H₀ E tNil 0 dNil := fun ex δ σ G H Qd Q hx S q k => k [] [] G H S.refl .nil rfl q
theorem ae_cons {n : Nat} (h : EvD K H₀ E te de) (t : AvE K H₀ E ta n dl) : AvE K H₀ E (tCons te ta) (n + 1) (dCons de dl) := fun ex δ σ G H Qd Q hx S q k =>
  h ex δ σ G H _ _ hx S q fun v d G1 H1 e1 hd q1 => t ex δ σ G1 H1 _ _ hx (S.ext e1) q1 fun vs ds G2 H2 e2 hds hn q2 =>
    k (v :: vs) (d :: ds) G2 H2 (e1.trans e2) (.cons (dv_same e2.g hd) hds) (by rw [List.length_cons, hn]) q2
theorem ext_new {G H : Hp} {p : Addr} {xs : List V} (s : Sub G H) (hp : H p = none) : Ext G H (upd G p (.tup xs)) (upd H p (.tup xs)) := by
  have hg : G p = none := s.same.free hp
  refine ⟨fun b o z => by rw [upd_ne (ne_of_none z hg)]; exact z, fun b o z => by rw [upd_ne (ne_of_none z hp)]; exact z, fun b => ?_, fun b o z => ?_⟩
  · by_cases w : b = p
    · subst w; exact .inl (by rw [upd_same, upd_same])
    · rw [upd_ne w, upd_ne w]; exact s b
  · by_cases w : b = p
    · subst w; exact .inr hp
    · rw [upd_ne w] at z; exact .inl z
theorem ext_newL {G H : Hp} {p : Addr} {xs : List V} (s : Sub G H) (hp : H p = none) : Ext G H G (upd H p (.lst xs)) ∧ G p = none := by
  have hg : G p = none := s.same.free hp
  refine ⟨⟨Same.refl _, fun b o z => by rw [upd_ne (ne_of_none z hp)]; exact z, fun b => ?_, fun b o z => .inl z⟩, hg⟩
  by_cases w : b = p
  · subst w; exact .inr ⟨hg, xs, upd_same⟩
  · rw [upd_ne w]; exact s b
noncomputable def dTup (dl : DL) (ex : DX) (δ : DEn) (Q : PyData → Prop) : Prop := dl ex δ fun ds => Q (.tuple ds)
noncomputable def dLst (dl : DL) (ex : DX) (δ : DEn) (Q : List PyData → Prop) : Prop := dl ex δ Q
theorem ev_tup {n : Nat} (h : AvE K H₀ E ta n dl) (hn : n ≤ 1000) : EvD K H₀ E (tTup ta) (dTup dl) := fun ex δ σ G H Qd Q hx S q k =>
  h ex δ σ G H _ _ hx S q fun vs ds G1 H1 e1 hd q0 q1 => ⟨Nat.le_of_lt (small1000 (by rw [hd.len, q0]; exact hn)), fun p hp => by
    have e2 := ext_new (xs := vs) e1.s hp
    exact k (.ref p) (.tuple ds) _ _ (e1.trans e2) (.tup (SqT.of upd_same) (dvs_same e2.g hd)) q1⟩
theorem ov_lst {n : Nat} (h : AvE K H₀ E ta n dl) (hn : n ≤ 1000) : OvD K H₀ E (tLst ta) (dLst dl) := fun ex δ σ G H Qd Q hx S q k =>
  h ex δ σ G H _ _ hx S q fun vs ds G1 H1 e1 hd q0 q1 => ⟨Nat.le_of_lt (small1000 (by rw [hd.len, q0]; exact hn)), fun p hp => by
    obtain ⟨e2, hg⟩ := ext_newL (xs := vs) e1.s hp
    exact k p vs ds _ _ (e1.trans e2) (e1.h.free hp) hg upd_same hd q1⟩
end
section
variable {K : PySem.W.Frag} {H₀ : Hp} {E : XK} {te ta tb : TE} {da db de : DE} {dl dk : DL} {t : TA} {tt tu : TT} {dt du : DT}
noncomputable abbrev RD2 := PyData → PyData → (PyData → Prop) → Prop
noncomputable def ROp (K : PySem.W.Frag) (r : R2) (rd : RD2) : Prop := ∀ (G H : Hp) (x y : V) (dx dy : PyData) (Qd : PyData → Prop) (Q : VK), DV K H x dx → DV K H y dy → rd dx dy Qd → (∀ v d, DV K G v d → Qd d → Q v H) → r x y H Q
noncomputable def dOp (rd : RD2) (da db : DE) (ex : DX) (δ : DEn) (Q : PyData → Prop) : Prop := da ex δ fun x => db ex δ fun y => rd x y Q
theorem ev_op {r : R2} {rd : RD2} (hr : ROp K r rd) (ha : BvD K H₀ E ta da) (hb : BvD K H₀ E tb db) : EvD K H₀ E (tOp r ta tb) (dOp rd da db) := fun ex δ σ G H Qd Q hx S q k =>
  ha ex δ σ G H _ _ hx S q fun x dx G1 H1 e1 h1 q1 => hb ex δ σ G1 H1 _ _ hx (S.ext e1) q1 fun y dy G2 H2 e2 h2 q2 =>
    hr G2 H2 x y dx dy Qd Q (dv_same e2.h h1) h2 q2 fun v d hv qd => k v d G2 H2 (e1.trans e2) hv qd
noncomputable def oI (C : Int → Int → Prop) (f : Int → Int → Int) (x y : PyData) (Q : PyData → Prop) : Prop := match x, y with
  | .int i, .int j => C i j ∧ Q (.int (f i j))
  | _, _ => False
noncomputable def oI0 (f : Int → Int → Int) (x y : PyData) (Q : PyData → Prop) : Prop := match x, y with
  | .int i, .int j => Q (.int (f i j))
  | _, _ => False
noncomputable def oB0 (f : Int → Int → Bool) (x y : PyData) (Q : PyData → Prop) : Prop := match x, y with
  | .int i, .int j => Q (.bool (f i j))
  | _, _ => False
theorem ro_i {C : Int → Int → Prop} {f : Int → Int → Int} : ROp K (rI C fun i j => .int (f i j)) (oI C f) := by
  intro G H x y dx dy Qd Q hx hy q k
  unfold oI at q
  split at q
  · cases dv_int hx; cases dv_int hy
    exact ⟨_, _, rfl, rfl, q.1, k _ _ (.int _) q.2⟩
  · exact q.elim
theorem ro_i0 {f : Int → Int → Int} : ROp K (rI0 fun i j => .int (f i j)) (oI0 f) := by
  intro G H x y dx dy Qd Q hx hy q k
  unfold oI0 at q
  split at q
  · cases dv_int hx; cases dv_int hy
    exact ⟨_, _, rfl, rfl, k _ _ (.int _) q⟩
  · exact q.elim
theorem ro_b0 {f : Int → Int → Bool} : ROp K (rI0 fun i j => .bl (f i j)) (oB0 f) := by
  intro G H x y dx dy Qd Q hx hy q k
  unfold oB0 at q
  split at q
  · cases dv_int hx; cases dv_int hy
    exact ⟨_, _, rfl, rfl, k _ _ (.bl _) q⟩
  · exact q.elim
noncomputable def oEq (x y : PyData) (Q : PyData → Prop) : Prop := match x, y with
  | .int i, .int j => Q (.bool (decide (i = j)))
  | .str i, .str j => Q (.bool (decide (i = j)))
  | .bool i, .bool j => Q (.bool (decide (i = j)))
  | _, _ => False
noncomputable def oNe (x y : PyData) (Q : PyData → Prop) : Prop := match x, y with
  | .int i, .int j => Q (.bool (!decide (i = j)))
  | .str i, .str j => Q (.bool (!decide (i = j)))
  | .bool i, .bool j => Q (.bool (!decide (i = j)))
  | _, _ => False
theorem ro_eq : ROp K rEq oEq := by
  intro G H x y dx dy Qd Q hx hy q k
  unfold oEq at q
  split at q
  · cases dv_int hx; cases dv_int hy
    refine ⟨rfl, k _ _ (.bl _) ?_⟩
    simpa using q
  · cases dv_str hx; cases dv_str hy
    refine ⟨rfl, k _ _ (.bl _) ?_⟩
    simpa using q
  · cases dv_bl hx; cases dv_bl hy
    refine ⟨rfl, k _ _ (.bl _) ?_⟩
    simpa using q
  · exact q.elim
theorem ro_ne : ROp K rNe oNe := by
  intro G H x y dx dy Qd Q hx hy q k
  unfold oNe at q
  split at q
  · cases dv_int hx; cases dv_int hy
    refine ⟨rfl, k _ _ (.bl _) ?_⟩
    simpa using q
  · cases dv_str hx; cases dv_str hy
    refine ⟨rfl, k _ _ (.bl _) ?_⟩
    simpa using q
  · cases dv_bl hx; cases dv_bl hy
    refine ⟨rfl, k _ _ (.bl _) ?_⟩
    simpa using q
  · exact q.elim
noncomputable def oEqD (x y : PyData) (Q : PyData → Prop) : Prop := ∃ (α : Type) (e : Enc α) (a b : α), x = e.d a ∧ y = e.d b ∧ ∀ k : Bool, (k = true ↔ a = b) → Q (.bool k)
noncomputable def oNeD (x y : PyData) (Q : PyData → Prop) : Prop := ∃ (α : Type) (e : Enc α) (a b : α), x = e.d a ∧ y = e.d b ∧ ∀ k : Bool, (k = true ↔ a = b) → Q (.bool !k)
theorem ro_eqD : ROp K (rEqD K false) oEqD := by
  rintro G H x y dx dy Qd Q hx hy ⟨α, e, a, b, rfl, rfl, q⟩ k
  exact ⟨α, e, a, b, hx, hy, fun c hc => k _ _ (.bl _) (q c hc)⟩
theorem ro_neD : ROp K (rEqD K true) oNeD := by
  rintro G H x y dx dy Qd Q hx hy ⟨α, e, a, b, rfl, rfl, q⟩ k
  exact ⟨α, e, a, b, hx, hy, fun c hc => k _ _ (.bl _) (q c hc)⟩
noncomputable def dNeg (da : DE) (ex : DX) (δ : DEn) (Q : PyData → Prop) : Prop := da ex δ fun x => match x with
  | .int i => Q (.int (-i))
  | _ => False
theorem ev_neg (ha : BvD K H₀ E ta da) : EvD K H₀ E (tUn (rU fun i => .int (-i)) ta) (dNeg da) := fun ex δ σ G H Qd Q hx S q k =>
  ha ex δ σ G H _ _ hx S q fun x dx G1 H1 e1 h1 q1 => by
    cases dx with
    | int i =>
      cases dv_int h1
      exact ⟨_, rfl, k _ _ G1 H1 e1 (.int _) q1⟩
    | _ => exact q1.elim
theorem ev_k {v : Int} (h : EvD K H₀ E te de) (hk : ∀ ex δ Q, Q (.int v) → de ex δ Q) : EvD K H₀ E te (dC (.int v)) := fun ex δ σ G H Qd Q hx S q k => h ex δ σ G H Qd Q hx S (hk ex δ Qd q) k
noncomputable def dMap (f : Int → Int) (da : DE) (ex : DX) (δ : DEn) (Q : PyData → Prop) : Prop := da ex δ fun x => match x with
  | .int i => Q (.int (f i))
  | _ => False
theorem ev_dvk {k : Int} (hk : CDivB 0 k) (ha : BvD K H₀ E ta da) (hb : EvD K H₀ E tb (dC (.int k))) : EvD K H₀ E (tOp (rI CDivB fun i j => .int (i / j)) ta tb) (dMap (fun i => i / k) da) := fun ex δ σ G H Qd Q hx S q k' =>
  ha ex δ σ G H _ _ hx S q fun x dx G1 H1 e1 h1 q1 => hb ex δ σ G1 H1 (fun d => d = .int k) _ hx (S.ext e1) rfl fun y dy G2 H2 e2 h2 hy => by
    subst hy
    cases dv_int h2
    cases dx with
    | int i => cases dv_int h1; exact ⟨_, _, rfl, rfl, hk, k' _ _ G2 H2 (e1.trans e2) (.int _) q1⟩
    | _ => exact q1.elim
theorem ev_mdk {k : Int} (hk : 0 < k) (ha : BvD K H₀ E ta da) (hb : EvD K H₀ E tb (dC (.int k))) : EvD K H₀ E (tOp (rI (fun _ j => 0 < j) fun i j => .int (i % j)) ta tb) (dMap (fun i => i % k) da) := fun ex δ σ G H Qd Q hx S q k' =>
  ha ex δ σ G H _ _ hx S q fun x dx G1 H1 e1 h1 q1 => hb ex δ σ G1 H1 (fun d => d = .int k) _ hx (S.ext e1) rfl fun y dy G2 H2 e2 h2 hy => by
    subst hy
    cases dv_int h2
    cases dx with
    | int i => cases dv_int h1; exact ⟨_, _, rfl, rfl, hk, k' _ _ G2 H2 (e1.trans e2) (.int _) q1⟩
    | _ => exact q1.elim
noncomputable def dIxL (dl : DL) (db : DE) (ex : DX) (δ : DEn) (Q : PyData → Prop) : Prop := dl ex δ fun ds => db ex δ fun y => match y with
  | .int i => ∃ d, atI ds i = some d ∧ Q d
  | _ => False
theorem dvs_atI {G : Hp} {vs : List V} {ds : List PyData} {i : Int} {d : PyData} (h : DVs K G vs ds) (e : atI ds i = some d) : ∃ v, atI vs i = some v ∧ DV K G v d := by
  unfold atI at e ⊢
  rw [h.len]
  cases q : ixN ds.length i with
  | none => rw [q] at e; cases e
  | some j =>
    rw [q] at e
    exact h.at e
theorem ev_ixl (ha : LvD K H₀ E ta dl) (hb : BvD K H₀ E tb db) : EvD K H₀ E (tOp (rIxL K) ta tb) (dIxL dl db) := fun ex δ σ G H Qd Q hx S q k =>
  ha ex δ σ G H _ _ hx S q fun a vs ds G1 H1 e1 h1 h2 q1 => hb ex δ σ G1 H1 _ _ hx (S.ext e1) q1 fun y dy G2 H2 e2 h3 q2 => by
    cases dy with
    | int i =>
      obtain ⟨d, z, q2⟩ := q2
      cases dv_int h3
      obtain ⟨v, z1, z2⟩ := dvs_atI h2 z
      exact ⟨a, vs, i, v, rfl, rfl, e2.h.seq h1, z1, k v d G2 H2 (e1.trans e2) (dv_same e2.g z2) q2⟩
    | _ => exact q2.elim
noncomputable def nth : List PyData → Nat → Option PyData
  | [], _ => none
  | d :: _, 0 => some d
  | _ :: ds, n + 1 => nth ds n
theorem nth_at : ∀ {ds : List PyData} {k : Nat} {d : PyData}, nth ds k = some d → ds[k]? = some d
  | [], _, _, h => by cases h
  | d :: _, 0, _, h => by simpa [nth] using h
  | _ :: ds, k + 1, d, h => by simpa using nth_at (ds := ds) (k := k) (d := d) h
noncomputable def dIxK (k : Nat) (da : DE) (ex : DX) (δ : DEn) (Q : PyData → Prop) : Prop := da ex δ fun x => match x with
  | .tuple ds => (match nth ds k with
    | some d => Q d
    | none => False)
  | _ => False
theorem ev_ixk (m : Nat) (ha : EvD K H₀ E ta da) : EvD K H₀ E (tOp (rIxT K) ta (tC (.int (m : Int)))) (dIxK m da) := fun ex δ σ G H Qd Q hx S q k =>
  ha ex δ σ G H _ _ hx S q fun x dx G1 H1 e1 h1 q1 => by
    cases dx with
    | tuple ds =>
      dsimp only at q1
      split at q1
      · rename_i d z
        obtain ⟨a, vs, rfl, h2, h3⟩ := dv_tuple h1
        obtain ⟨v, z1, z2⟩ := dvs_atI h3 (atI_nat (nth_at z))
        exact ⟨a, vs, _, v, rfl, rfl, sqT_same e1.s.same h2, z1, k v _ G1 H1 e1 z2 q1⟩
      · exact q1.elim
    | _ => exact q1.elim
noncomputable abbrev RDc := List PyData → (PyData → Prop) → Prop
noncomputable def RCb (K : PySem.W.Frag) (r : List V → Hp → VK → Prop) (rd : RDc) : Prop := ∀ (G H : Hp) (xs : List V) (ds : List PyData) (Qd : PyData → Prop) (Q : VK), DVs K H xs ds → rd ds Qd → (∀ v d, DV K G v d → Qd d → Q v H) → r xs H Q
noncomputable def dCb (rd : RDc) (dl : DL) (ex : DX) (δ : DEn) (Q : PyData → Prop) : Prop := dl ex δ fun ds => rd ds Q
theorem ev_cb {r : List V → Hp → VK → Prop} {rd : RDc} (hr : RCb K r rd) (ha : AvD K H₀ E t dl) : EvD K H₀ E (tCB r t) (dCb rd dl) := fun ex δ σ G H Qd Q hx S q k =>
  ha ex δ σ G H _ _ hx S q fun vs ds G1 H1 e1 h1 q1 => hr G1 H1 vs ds Qd Q h1 q1 fun v d hv qd => k v d G1 H1 e1 hv qd
noncomputable def bAbs (ds : List PyData) (Q : PyData → Prop) : Prop := match ds with
  | [.int i] => Q (.int (if i < 0 then -i else i))
  | _ => False
noncomputable def bMin (ds : List PyData) (Q : PyData → Prop) : Prop := match ds with
  | [.int i, .int j] => Q (.int (if j < i then j else i))
  | _ => False
noncomputable def bMax (ds : List PyData) (Q : PyData → Prop) : Prop := match ds with
  | [.int i, .int j] => Q (.int (if j > i then j else i))
  | _ => False
noncomputable def bLen (ds : List PyData) (Q : PyData → Prop) : Prop := match ds with
  | [.list xs] => Q (.int xs.length)
  | [.tuple xs] => Q (.int xs.length)
  | _ => False
noncomputable def bSum (ds : List PyData) (Q : PyData → Prop) : Prop := match ds with
  | [.list xs] => ∃ ns : List Int, xs = ns.map PyData.int ∧ Q (.int ns.sum)
  | _ => False
theorem dvs1 {H : Hp} {xs : List V} {d : PyData} (h : DVs K H xs [d]) : ∃ x, xs = [x] ∧ DV K H x d := by
  cases h with
  | cons h t => cases t; exact ⟨_, rfl, h⟩
theorem dvs2 {H : Hp} {xs : List V} {d e : PyData} (h : DVs K H xs [d, e]) : ∃ x y, xs = [x, y] ∧ DV K H x d ∧ DV K H y e := by
  cases h with
  | cons h t => cases t with
    | cons h2 t => cases t; exact ⟨_, _, rfl, h, h2⟩
theorem rb_abs : RCb K (fun xs H Q => ∃ i, xs = [.int i] ∧ Q (.int (if i < 0 then -i else i)) H) bAbs := by
  intro G H xs ds Qd Q h q k
  unfold bAbs at q
  split at q
  · obtain ⟨x, rfl, hx⟩ := dvs1 h
    cases dv_int hx
    exact ⟨_, rfl, k _ _ (.int _) q⟩
  · exact q.elim
theorem rb_min : RCb K (fun xs H Q => ∃ i j, xs = [.int i, .int j] ∧ Q (.int (if j < i then j else i)) H) bMin := by
  intro G H xs ds Qd Q h q k
  unfold bMin at q
  split at q
  · obtain ⟨x, y, rfl, hx, hy⟩ := dvs2 h
    cases dv_int hx; cases dv_int hy
    exact ⟨_, _, rfl, k _ _ (.int _) q⟩
  · exact q.elim
theorem rb_max : RCb K (fun xs H Q => ∃ i j, xs = [.int i, .int j] ∧ Q (.int (if j > i then j else i)) H) bMax := by
  intro G H xs ds Qd Q h q k
  unfold bMax at q
  split at q
  · obtain ⟨x, y, rfl, hx, hy⟩ := dvs2 h
    cases dv_int hx; cases dv_int hy
    exact ⟨_, _, rfl, k _ _ (.int _) q⟩
  · exact q.elim
theorem rb_len : RCb K (fun xs H Q => ∃ p ys, xs = [.ref p] ∧ (SqL K H p ys ∨ SqT K H p ys) ∧ Q (.int ys.length) H) bLen := by
  intro G H xs ds Qd Q h q k
  unfold bLen at q
  split at q
  · obtain ⟨x, rfl, hx⟩ := dvs1 h
    obtain ⟨a, vs, rfl, h1, h2⟩ := dv_list hx
    exact ⟨a, vs, rfl, .inl h1, k _ _ (.int _) (by rw [h2.len]; exact q)⟩
  · obtain ⟨x, rfl, hx⟩ := dvs1 h
    obtain ⟨a, vs, rfl, h1, h2⟩ := dv_tuple hx
    exact ⟨a, vs, rfl, .inr h1, k _ _ (.int _) (by rw [h2.len]; exact q)⟩
  · exact q.elim
theorem dvs_ints {H : Hp} : ∀ {ns : List Int} {xs : List V}, DVs K H xs (ns.map PyData.int) → xs = ns.map V.int
  | [], _, .nil => rfl
  | n :: ns, _, .cons h t => by
    cases dv_int h
    rw [dvs_ints t]; rfl
theorem rb_sum : RCb K (fun xs H Q => ∃ (p : Addr) (ns : List Int), xs = [.ref p] ∧ SqL K H p (ns.map V.int) ∧ Q (.int ns.sum) H) bSum := by
  intro G H xs ds Qd Q h q k
  unfold bSum at q
  split at q
  · obtain ⟨x, rfl, hx⟩ := dvs1 h
    obtain ⟨ns, rfl, q⟩ := q
    obtain ⟨a, vs, rfl, h1, h2⟩ := dv_list hx
    cases dvs_ints h2
    exact ⟨a, ns, rfl, h1, k _ _ (.int _) q⟩
  · exact q.elim
noncomputable def dListOf (dl : DL) (ex : DX) (δ : DEn) (Q : List PyData → Prop) : Prop := dl ex δ Q
theorem ov_list {te : TE} (ha : LvD K H₀ E te dl) : OvD K H₀ E (tCB (fun xs H Q => ∃ p ys, xs = [.ref p] ∧ (SqL K H p ys ∨ SqT K H p ys) ∧ ∀ l, H l = none → Q (.ref l) (upd H l (.lst ys))) (tCons te tNil)) (dListOf dl) := fun ex δ σ G H Qd Q hx S q k =>
  ha ex δ σ G H _ _ hx S q fun a vs ds G1 H1 e1 h1 h2 q1 => ⟨a, vs, rfl, .inl h1, fun p hp => by
    obtain ⟨e2, hg⟩ := ext_newL (xs := vs) e1.s hp
    exact k p vs ds _ _ (e1.trans e2) (e1.h.free hp) hg upd_same h2 q1⟩
noncomputable def tyD : PyData → String
  | .none => "NoneType"
  | .bool _ => "bool"
  | .int _ => "int"
  | .str _ => "str"
  | .list _ => "list"
  | .tuple _ => "tuple"
  | .dict _ => "dict"
noncomputable def isD (n : String) (d : PyData) : Bool := tyD d == n || (n == "int" && tyD d == "bool")
noncomputable abbrev DO := DX → DEn → (Option Int → Prop) → Prop
noncomputable def OvP (K : PySem.W.Frag) (H₀ : Hp) (E : XK) (to : TO) (d : DO) : Prop := ∀ ex δ σ G H Qd Q, ExOk H₀ E ex → Sees K H₀ G δ σ H → d ex δ Qd → (∀ o G' H', Ext G H G' H' → Qd o → Q o H') → to σ H Q
noncomputable def dNoP (_ex : DX) (_δ : DEn) (Q : Option Int → Prop) : Prop := Q none
noncomputable def dPart (de : DE) (ex : DX) (δ : DEn) (Q : Option Int → Prop) : Prop := de ex δ fun x => match x with
  | .int i => Q (some i)
  | _ => False
theorem op_no : OvP K H₀ E tNoPart dNoP := fun ex δ σ G H Qd Q hx S q k => k none G H S.refl q
theorem op_part (h : BvD K H₀ E te de) : OvP K H₀ E (tPart te) (dPart de) := fun ex δ σ G H Qd Q hx S q k =>
  h ex δ σ G H _ _ hx S q fun x dx G1 H1 e1 h1 q1 => by
    cases dx with
    | int i =>
      cases dv_int h1
      exact ⟨_, rfl, k _ G1 H1 e1 q1⟩
    | _ => exact q1.elim
noncomputable def cutL {α : Type} (xs : List α) (lo hi : Option Int) : List α := (xs.drop (HT.sIx xs.length 0 lo)).take (HT.sIx xs.length xs.length hi - HT.sIx xs.length 0 lo)
theorem cutL_lo {α : Type} (xs : List α) (k : Nat) : cutL xs (some (k : Int)) none = xs.drop k := by
  unfold cutL
  rw [HT.sIx_none, HT.sIx_nat]
  by_cases h : k ≤ xs.length
  · rw [Nat.min_eq_left h, List.take_of_length_le (by rw [List.length_drop]; omega)]
  · have e : min k xs.length = xs.length := by omega
    rw [e, List.drop_length, List.take_nil, List.drop_eq_nil_of_le (by omega)]
noncomputable def dSl (dl : DL) (d1 d2 : DO) (ex : DX) (δ : DEn) (Q : List PyData → Prop) : Prop := dl ex δ fun ds => d1 ex δ fun lo => d2 ex δ fun hi => Q (cutL ds lo hi)
theorem dvs_cut {G : Hp} {vs : List V} {ds : List PyData} {lo hi : Option Int} (h : DVs K G vs ds) : DVs K G (cutV vs lo hi) (cutL ds lo hi) := by
  unfold cutV cutL
  rw [h.len]
  exact (h.drop _).take _
theorem ov_sl {t1 t2 : TO} {d1 d2 : DO} (ha : LvD K H₀ E te dl) (h1 : OvP K H₀ E t1 d1) (h2 : OvP K H₀ E t2 d2) : OvD K H₀ E (tSl (rSlL K) te t1 t2) (dSl dl d1 d2) := fun ex δ σ G H Qd Q hx S q k =>
  ha ex δ σ G H _ _ hx S q fun a vs ds G1 H1 e1 g1 g2 q1 => h1 ex δ σ G1 H1 _ _ hx (S.ext e1) q1 fun lo G2 H2 e2 q2 => h2 ex δ σ G2 H2 _ _ hx (S.ext (e1.trans e2)) q2 fun hi G3 H3 e3 q3 =>
    ⟨a, vs, rfl, (e2.trans e3).h.seq g1, fun p hp => by
      obtain ⟨e4, hg⟩ := ext_newL (xs := cutV vs lo hi) e3.s hp
      have e0 := e1.trans (e2.trans e3)
      exact k p _ _ _ _ (e0.trans e4) (e0.h.free hp) hg upd_same (dvs_same (e2.trans e3).g (dvs_cut g2)) q3⟩
noncomputable def dAsB (de : DE) (ex : DX) (δ : DEn) (Q : Bool → Prop) : Prop := de ex δ fun x => match x with
  | .bool b => Q b
  | _ => False
theorem tv_b (h : BvD K H₀ E te de) : TvD K H₀ E (tB te) (dAsB de) := fun ex δ σ G H Qd Q hx S q k =>
  h ex δ σ G H _ _ hx S q fun x dx G1 H1 e1 h1 q1 => by
    cases dx with
    | bool i =>
      cases dv_bl h1
      exact ⟨_, rfl, k _ G1 H1 e1 q1⟩
    | _ => exact q1.elim
theorem tv_test (h : BvD K H₀ E te de) : TvD K H₀ E (tTest te) (dAsB de) := fun ex δ σ G H Qd Q hx S q k =>
  h ex δ σ G H _ _ hx S q fun x dx G1 H1 e1 h1 q1 => by
    cases dx with
    | bool i =>
      cases dv_bl h1
      exact ⟨_, rfl, k _ G1 H1 e1 q1⟩
    | _ => exact q1.elim
noncomputable def dAnd (dt du : DT) (ex : DX) (δ : DEn) (Q : Bool → Prop) : Prop := dt ex δ fun b => if b = true then du ex δ Q else Q false
noncomputable def dOr (dt du : DT) (ex : DX) (δ : DEn) (Q : Bool → Prop) : Prop := dt ex δ fun b => if b = true then Q true else du ex δ Q
noncomputable def dNot (dt : DT) (ex : DX) (δ : DEn) (Q : Bool → Prop) : Prop := dt ex δ fun b => Q (!b)
theorem tv_and (h1 : TvD K H₀ E tt dt) (h2 : TvD K H₀ E tu du) : TvD K H₀ E (tAnd tt tu) (dAnd dt du) := fun ex δ σ G H Qd Q hx S q k =>
  h1 ex δ σ G H _ _ hx S q fun b G1 H1 e1 q1 => by
    cases b with
    | true => exact h2 ex δ σ G1 H1 _ _ hx (S.ext e1) q1 fun c G2 H2 e2 q2 => k c G2 H2 (e1.trans e2) q2
    | false => exact k false G1 H1 e1 q1
theorem tv_or (h1 : TvD K H₀ E tt dt) (h2 : TvD K H₀ E tu du) : TvD K H₀ E (tOr tt tu) (dOr dt du) := fun ex δ σ G H Qd Q hx S q k =>
  h1 ex δ σ G H _ _ hx S q fun b G1 H1 e1 q1 => by
    cases b with
    | false => exact h2 ex δ σ G1 H1 _ _ hx (S.ext e1) q1 fun c G2 H2 e2 q2 => k c G2 H2 (e1.trans e2) q2
    | true => exact k true G1 H1 e1 q1
theorem tv_not (h1 : TvD K H₀ E tt dt) : TvD K H₀ E (tNot tt) (dNot dt) := fun ex δ σ G H Qd Q hx S q k =>
  h1 ex δ σ G H _ _ hx S q fun b G1 H1 e1 q1 => k _ G1 H1 e1 q1
noncomputable def dIfE (dt : DT) (da db : DE) (ex : DX) (δ : DEn) (Q : PyData → Prop) : Prop := dt ex δ fun b => if b = true then da ex δ Q else db ex δ Q
theorem ev_if (ht : TvD K H₀ E tt dt) (ha : EvD K H₀ E ta da) (hb : EvD K H₀ E tb db) : EvD K H₀ E (tIf tt ta tb) (dIfE dt da db) := fun ex δ σ G H Qd Q hx S q k =>
  ht ex δ σ G H _ _ hx S q fun b G1 H1 e1 q1 => by
    cases b with
    | true => exact ha ex δ σ G1 H1 _ _ hx (S.ext e1) q1 fun v d G2 H2 e2 hd q2 => k v d G2 H2 (e1.trans e2) hd q2
    | false => exact hb ex δ σ G1 H1 _ _ hx (S.ext e1) q1 fun v d G2 H2 e2 hd q2 => k v d G2 H2 (e1.trans e2) hd q2
noncomputable abbrev DW := List PyData → (Sl → Prop) → DX → Prop
noncomputable def rm (H : Hp) (a : Addr) : Hp := fun b => if b = a then none else H b
noncomputable def RetIs (K : PySem.W.Frag) (H H' : Hp) (v : V) : Sl → Prop
  | .dat d => DV K H' v d
  | .own ds => ∃ a vs, v = .ref a ∧ H a = none ∧ H' a = some (.lst vs) ∧ DVs K (rm H' a) vs ds
  | .exc _ => False
  | .fz _ _ => False
  | .two xs ys => ∃ t a b vs ws, v = .ref t ∧ SqT K H' t [.ref a, .ref b] ∧ a ≠ b ∧ H a = none ∧ H b = none ∧ H' a = some (.lst vs) ∧ H' b = some (.lst ws) ∧ DVs K (rm (rm H' a) b) vs xs ∧ DVs K (rm (rm H' a) b) ws ys
noncomputable def spW (K : PySem.W.Frag) (w : DW) : Sp := fun vs H Q E => ∃ ds Qd Ed, DVs K H vs ds ∧ w ds Qd Ed ∧ (∀ v s H', Same H H' → RetIs K H H' v s → Qd s → Q v H') ∧ (∀ C H', Same H H' → Ed C → E (.ref C) none H')
noncomputable def grow (G H H' : Hp) : Hp := fun b => match H b with
  | none => H' b
  | some _ => G b
theorem ext_grow {G H H' : Hp} (s : Sub G H) (h : Same H H') : Ext G H (grow G H H') H' := by
  refine ⟨fun b o z => ?_, h, fun b => ?_, fun b o z => ?_⟩
  · unfold grow
    rw [s.same b o z]
    exact z
  · unfold grow
    cases q : H b with
    | none => exact .inl rfl
    | some o =>
      dsimp only
      rw [h b o q]
      have := s b
      rw [q] at this
      exact this
  · unfold grow at z
    cases q : H b with
    | none => exact .inr rfl
    | some u => rw [q] at z; exact .inl z
theorem grow_flat {G H H' : Hp} (s : Sub G H) (h : Same H H') : ∀ b o, H' b = some o → (∀ xs, o ≠ .lst xs) → grow G H H' b = some o := fun b o e n => by
  unfold grow
  cases q : H b with
  | none => exact e
  | some u =>
    dsimp only
    have := h b u q
    rw [e] at this
    cases this
    exact s.other q n
noncomputable def flatS : (PyData → Prop) → Sl → Prop
  | Q, .dat d => flatD d = true ∧ Q d
  | Q, .own ds => flatDs ds = true ∧ Q (.list ds)
  | _, .exc _ => False
  | _, .fz _ _ => False
  | _, .two _ _ => False
noncomputable def ownS : (List PyData → Prop) → Sl → Prop
  | _, .dat _ => False
  | Q, .own ds => flatDs ds = true ∧ Q ds
  | _, .exc _ => False
  | _, .fz _ _ => False
  | _, .two _ _ => False
noncomputable def anyS : (PyData → Prop) → Sl → Prop
  | Q, .dat d => Q d
  | Q, .own ds => Q (.list ds)
  | _, .exc _ => False
  | _, .fz _ _ => False
  | Q, .two xs ys => Q (.tuple [.list xs, .list ys])
noncomputable def dCall (w : DW) (dl : DL) (ex : DX) (δ : DEn) (Q : PyData → Prop) : Prop := dl ex δ fun ds => w ds (flatS Q) ex
noncomputable def dCall0 (w : DW) (dl : DL) (ex : DX) (δ : DEn) (Q : PyData → Prop) : Prop := dl ex δ fun ds => w ds (flatS Q) fun _ => False
noncomputable def dCallO0 (w : DW) (dl : DL) (ex : DX) (δ : DEn) (Q : List PyData → Prop) : Prop := dl ex δ fun ds => w ds (ownS Q) fun _ => False
theorem exok0 {H₀ : Hp} {E : XK} : ExOk H₀ E fun _ => False := fun _ _ _ z => z.elim
theorem ret_flat {G H H' : Hp} {v : V} {s : Sl} {Q : PyData → Prop} (hs : Sub G H) (h : Same H H') (r : RetIs K H H' v s) (q : flatS Q s) : ∃ d G', Ext G H G' H' ∧ DV K G' v d ∧ Q d := by
  cases s with
  | exc C => exact r.elim
  | fz _ _ => exact r.elim
  | two xs ys => exact q.elim
  | dat d => exact ⟨d, _, ext_grow hs h, dv_flat (grow_flat hs h) r q.1, q.2⟩
  | own ds =>
    obtain ⟨a, vs, rfl, hn, hh, hd⟩ := r
    have hd1 : DVs K H' vs ds := dvs_same (fun b o z => by
      unfold rm at z
      split at z
      · cases z
      · exact z) hd
    refine ⟨.list ds, _, ext_grow hs h, .lst (SqL.of ?_) (dvs_flat (grow_flat hs h) hd1 q.1), q.2⟩
    unfold grow
    rw [hn]
    exact hh
theorem ret_own {G H H' : Hp} {v : V} {s : Sl} {Q : List PyData → Prop} (hs : Sub G H) (h : Same H H') (r : RetIs K H H' v s) (q : ownS Q s) :
    ∃ a vs ds G', v = .ref a ∧ Ext G H G' H' ∧ H a = none ∧ G' a = none ∧ H' a = some (.lst vs) ∧ DVs K G' vs ds ∧ Q ds := by
  cases s with
  | exc C => exact r.elim
  | fz _ _ => exact r.elim
  | two xs ys => exact q.elim
  | dat d => exact q.elim
  | own ds =>
    obtain ⟨a, vs, rfl, hn, hh, hd⟩ := r
    have e := ext_grow hs h
    have hg : G a = none := hs.same.free hn
    refine ⟨a, vs, ds, rm (grow G H H') a, rfl, ⟨fun b o z => ?_, h, fun b => ?_, fun b o z => ?_⟩, hn, by unfold rm; rw [if_pos rfl], hh, dvs_flat (fun b o z n => ?_) hd q.1, q.2⟩
    · unfold rm
      rw [if_neg (ne_of_none z hg)]
      exact e.g b o z
    · unfold rm
      split
      · rename_i z; subst z
        exact .inr ⟨rfl, vs, hh⟩
      · exact e.s b
    · unfold rm at z
      split at z
      · cases z
      · exact e.n b o z
    · unfold rm at z ⊢
      split at z
      · cases z
      · rename_i hb
        rw [if_neg hb]
        exact grow_flat hs h b o z n
theorem rm2_same {H : Hp} {a b : Addr} : Same (rm (rm H a) b) H := fun c o z => by
  unfold rm at z
  split at z
  · cases z
  · split at z
    · cases z
    · exact z
theorem ret_any {H H' : Hp} {v : V} {s : Sl} {Q : PyData → Prop} (r : RetIs K H H' v s) (q : anyS Q s) : ∃ d, DV K H' v d ∧ Q d := by
  cases s with
  | exc C => exact r.elim
  | fz _ _ => exact r.elim
  | two xs ys =>
    obtain ⟨t, a, b, vs, ws, rfl, ht, hab, ha, hb, hh, hk, hd, he⟩ := r
    have sm : Same (rm (rm H' a) b) H' := rm2_same
    exact ⟨.tuple [.list xs, .list ys], .tup ht (.cons (.lst (SqL.of hh) (dvs_same sm hd)) (.cons (.lst (SqL.of hk) (dvs_same sm he)) .nil)), q⟩
  | dat d => exact ⟨d, r, q⟩
  | own ds =>
    obtain ⟨a, vs, rfl, hn, hh, hd⟩ := r
    exact ⟨.list ds, .lst (SqL.of hh) (dvs_same (fun b o z => by
      unfold rm at z
      split at z
      · cases z
      · exact z) hd), q⟩
section
variable {w : DW}
theorem call_use {E' : XK} {ex : DX} {δ : DEn} {σ : L2.St} {G H : Hp} {Q : VK} {QS : Sl → Prop} (ha : AvD K H₀ E t dl) (hx : ExOk H₀ E ex) (hx' : ∀ ex', ex' = ex ∨ ex' = (fun _ => False) → ExOk H₀ E' ex' ∨ True) (S : Sees K H₀ G δ σ H) (ex' : DX) (he : ExOk H₀ E' ex')
    (q : dl ex δ fun ds => w ds QS ex') (k : ∀ v s G1 H1 H2, Ext G H G1 H1 → Same H1 H2 → RetIs K H1 H2 v s → QS s → Q v H2) : tCall (spW K w) [] E' t σ H Q :=
  ha ex δ σ G H _ _ hx S q fun vs ds G1 H1 e1 h1 q1 => by
    refine ⟨ds, QS, ex', by rw [List.append_nil]; exact h1, q1, fun v s H2 sm r qs => k v s G1 H1 H2 e1 sm r qs, fun C H2 sm hc => he C H2 ((S.ext e1).oldH.trans sm) hc⟩
theorem ev_call (ha : AvD K H₀ E t dl) : EvD K H₀ E (tCall (spW K w) [] E t) (dCall w dl) := fun ex δ σ G H Qd Q hx S q k =>
  call_use ha hx (fun _ _ => .inr trivial) S ex hx q fun v s G1 H1 H2 e1 sm r qs => by
    obtain ⟨d, G', e2, hd, q2⟩ := ret_flat e1.s sm r qs
    exact k v d G' H2 (e1.trans e2) hd q2
theorem ev_call0 (ha : AvD K H₀ E t dl) : EvD K H₀ E (tCall (spW K w) [] E0 t) (dCall0 w dl) := fun ex δ σ G H Qd Q hx S q k =>
  call_use ha hx (fun _ _ => .inr trivial) S (fun _ => False) exok0 q fun v s G1 H1 H2 e1 sm r qs => by
    obtain ⟨d, G', e2, hd, q2⟩ := ret_flat e1.s sm r qs
    exact k v d G' H2 (e1.trans e2) hd q2
theorem ov_call0 (ha : AvD K H₀ E t dl) : OvD K H₀ E (tCall (spW K w) [] E0 t) (dCallO0 w dl) := fun ex δ σ G H Qd Q hx S q k =>
  call_use ha hx (fun _ _ => .inr trivial) S (fun _ => False) exok0 q fun v s G1 H1 H2 e1 sm r qs => by
    obtain ⟨a, vs, ds, G', rfl, e2, hn, hg, hh, hd, q2⟩ := ret_own e1.s sm r qs
    exact k a vs ds G' H2 (e1.trans e2) (e1.h.free hn) hg hh hd q2
end
end
structure DEnds where
  nx : DEn → Prop
  rt : Sl → Prop
  ex : DX
  bk : DEn → Prop := fun _ => False
  ct : DEn → Prop := fun _ => False
noncomputable abbrev DS := DEnds → DEn → Prop
structure Lk (K : PySem.W.Frag) (H₀ G : Hp) (e : DEnds) (D : Ends) : Prop where
  nx : ∀ δ σ G' H, Same G G' → Sees K H₀ G' δ σ H → e.nx δ → D.nx σ H
  rt : ∀ v s H, Same H₀ H → RetIs K H₀ H v s → e.rt s → D.rt v H
  bk : ∀ δ σ G' H, Same G G' → Sees K H₀ G' δ σ H → e.bk δ → D.bk σ H
  ct : ∀ δ σ G' H, Same G G' → Sees K H₀ G' δ σ H → e.ct δ → D.ct σ H
theorem Lk.mono {K : PySem.W.Frag} {H₀ G G1 : Hp} {e : DEnds} {D : Ends} (L : Lk K H₀ G e D) (s : Same G G1) : Lk K H₀ G1 e D :=
  ⟨fun δ σ G' H t => L.nx δ σ G' H (s.trans t), L.rt, fun δ σ G' H t => L.bk δ σ G' H (s.trans t), fun δ σ G' H t => L.ct δ σ G' H (s.trans t)⟩
noncomputable def SvD (K : PySem.W.Frag) (H₀ : Hp) (E : XK) (ts : TS) (ds : DS) : Prop := ∀ δ σ G H e D, ExOk H₀ E e.ex → Sees K H₀ G δ σ H → ds e δ → Lk K H₀ G e D → ts D σ H
noncomputable abbrev DG := PyData → DEn → (DEn → Prop) → Prop
noncomputable abbrev DGs := List PyData → DEn → (DEn → Prop) → Prop
noncomputable def Kp (ns : List Nat) (σ σ' : L2.St) : Prop := σ'.length = σ.length ∧ ∀ j, j ∉ ns → σ'[j]? = σ[j]?
noncomputable def GvD (K : PySem.W.Frag) (H₀ : Hp) (g : TG) (ns : List Nat) (dg : DG) : Prop := ∀ v d δ σ G H Qd Q, Sees K H₀ G δ σ H → DV K G v d → dg d δ Qd → (∀ δ' σ', Sees K H₀ G δ' σ' H → Kp ns σ σ' → Qd δ' → Q σ' H) → g v σ H Q
noncomputable def GsvD (K : PySem.W.Frag) (H₀ : Hp) (g : TGs) (ns : List Nat) (dg : DGs) : Prop := ∀ vs ds δ σ G H Qd Q, Sees K H₀ G δ σ H → DVs K G vs ds → dg ds δ Qd → (∀ δ' σ', Sees K H₀ G δ' σ' H → Kp ns σ σ' → Qd δ' → Q σ' H) → g vs σ H Q
section
variable {K : PySem.W.Frag} {H₀ : Hp} {E : XK} {te ta tb : TE} {da db de : DE} {dl dk : DL} {t : TA} {tt tu : TT} {dt du : DT} {ts tz : TS} {ds dz : DS} {g : TG} {dg : DG} {gs : TGs} {dgs : DGs} {ns ms : List Nat}
noncomputable def dNext (e : DEnds) (δ : DEn) : Prop := e.nx δ
noncomputable def dSeq (d1 d2 : DS) (e : DEnds) (δ : DEn) : Prop := d1 { e with nx := d2 e } δ
noncomputable def dCut (d1 d2 : DS) (e : DEnds) (δ : DEn) : Prop := ∃ I : DEn → Prop, d1 { e with nx := I } δ ∧ ∀ δ', I δ' → d2 e δ'
theorem sv_next : SvD K H₀ E tNext dNext := fun δ σ G H e D hx S q L => L.nx δ σ G H (Same.refl _) S q
theorem sv_seq (h1 : SvD K H₀ E ts ds) (h2 : SvD K H₀ E tz dz) : SvD K H₀ E (tSeq ts tz) (dSeq ds dz) := fun δ σ G H e D hx S q L =>
  h1 δ σ G H { e with nx := dz e } { D with nx := tz D } hx S q ⟨fun δ' σ' G' H' s S' q' => h2 δ' σ' G' H' e D hx S' q' (L.mono s), L.rt, L.bk, L.ct⟩
theorem sv_cut (h1 : SvD K H₀ E ts ds) (h2 : SvD K H₀ E tz dz) : SvD K H₀ E (tSeq ts tz) (dCut ds dz) := fun δ σ G H e D hx S ⟨I, q, qi⟩ L =>
  h1 δ σ G H { e with nx := I } { D with nx := tz D } hx S q ⟨fun δ' σ' G' H' s S' q' => h2 δ' σ' G' H' e D hx S' (qi δ' q') (L.mono s), L.rt, L.bk, L.ct⟩
noncomputable def dRet (de : DE) (e : DEnds) (δ : DEn) : Prop := de e.ex δ fun d => e.rt (.dat d)
noncomputable def dRetO (dl : DL) (e : DEnds) (δ : DEn) : Prop := dl e.ex δ fun ds => e.rt (.own ds)
noncomputable def dRetV (i : Nat) (e : DEnds) (δ : DEn) : Prop := match slot δ i with
  | some (.dat d) => e.rt (.dat d)
  | some (.own ds) => e.rt (.own ds)
  | _ => False
theorem ret_of_own {G H : Hp} {a : Addr} {vs : List V} {ds : List PyData} (h0 : H₀ a = none) (hg : G a = none) (s : Sub G H) (hh : H a = some (.lst vs)) (hd : DVs K G vs ds) : RetIs K H₀ H (.ref a) (.own ds) :=
  ⟨a, vs, rfl, h0, hh, dvs_same (fun b o z => by
    unfold rm
    rw [if_neg (ne_of_none z hg)]
    exact s.same b o z) hd⟩
theorem sv_ret (h : BvD K H₀ E te de) : SvD K H₀ E (tRet te) (dRet de) := fun δ σ G H e D hx S q L =>
  h e.ex δ σ G H _ _ hx S q fun v d G' H' x hd qd => L.rt v (.dat d) H' (S.ext x).oldH hd qd
theorem sv_retO (h : OvD K H₀ E te dl) : SvD K H₀ E (tRet te) (dRetO dl) := fun δ σ G H e D hx S q L =>
  h e.ex δ σ G H _ _ hx S q fun a vs ds G' H' x hn hg hh hd qd => L.rt (.ref a) (.own ds) H' (S.ext x).oldH (ret_of_own (S.oldH.free hn) hg x.s hh hd) qd
theorem sv_retV (i : Nat) : SvD K H₀ E (tRet (tVar i)) (dRetV i) := fun δ σ G H e D hx S q L => by
  unfold dRetV at q
  split at q
  · rename_i d hs
    obtain ⟨v, h1, h2⟩ := S.has i _ hs
    exact ⟨v, h1, L.rt v (.dat d) H S.oldH (dv_same S.sub.same h2) q⟩
  · rename_i ds hs
    obtain ⟨v, h1, h2⟩ := S.has i _ hs
    obtain ⟨a, vs, rfl, h3, h4, h5⟩ := h2
    exact ⟨_, h1, L.rt _ (.own ds) H S.oldH (ret_of_own (S.old.free h3) h3 S.sub h4 h5) q⟩
  · exact q.elim
noncomputable def dDrop (de : DE) (e : DEnds) (δ : DEn) : Prop := de e.ex δ fun _ => e.nx δ
theorem sv_expr (h : BvD K H₀ E te de) : SvD K H₀ E (tDrop te) (dDrop de) := fun δ σ G H e D hx S q L =>
  h e.ex δ σ G H _ _ hx S q fun v d G' H' x hd qd => L.nx δ σ G' H' x.g (S.ext x) qd
noncomputable def dIfS (dt : DT) (d1 d2 : DS) (e : DEnds) (δ : DEn) : Prop := dt e.ex δ fun b => if b = true then d1 e δ else d2 e δ
theorem sv_if (h : TvD K H₀ E tt dt) (h1 : SvD K H₀ E ts ds) (h2 : SvD K H₀ E tz dz) : SvD K H₀ E (tIfS tt ts tz) (dIfS dt ds dz) := fun δ σ G H e D hx S q L =>
  h e.ex δ σ G H _ _ hx S q fun b G' H' x qb => by
    cases b with
    | true => exact h1 δ σ G' H' e D hx (S.ext x) qb (L.mono x.g)
    | false => exact h2 δ σ G' H' e D hx (S.ext x) qb (L.mono x.g)
noncomputable def gvName (i : Nat) (d : PyData) (δ : DEn) (Q : DEn → Prop) : Prop := Q (put (some (.dat d)) i δ)
noncomputable def gvNil (ds : List PyData) (δ : DEn) (Q : DEn → Prop) : Prop := match ds with
  | [] => Q δ
  | _ => False
noncomputable def gvCons (dg : DG) (dgs : DGs) (ds : List PyData) (δ : DEn) (Q : DEn → Prop) : Prop := match ds with
  | d :: r => dg d δ fun δ' => dgs r δ' Q
  | [] => False
noncomputable def gvTup (n : Nat) (dgs : DGs) (d : PyData) (δ : DEn) (Q : DEn → Prop) : Prop := match d with
  | .tuple ds => ds.length = n ∧ dgs ds δ Q
  | _ => False
theorem gv_name (i : Nat) : GvD K H₀ (gName i) [i] (gvName i) := fun v d δ σ G H Qd Q S hd q k =>
  k _ _ (S.setD i hd) ⟨List.length_set, fun j hj => by rw [List.getElem?_set_ne (fun z => hj (by simp [z]))]⟩ q
theorem gs_nil : GsvD K H₀ gNil [] gvNil := fun vs ds δ σ G H Qd Q S hd q k => by
  unfold gvNil at q
  split at q
  · cases hd
    exact ⟨rfl, k δ σ S ⟨rfl, fun _ _ => rfl⟩ q⟩
  · exact q.elim
theorem gs_cons (h1 : GvD K H₀ g ns dg) (h2 : GsvD K H₀ gs ms dgs) : GsvD K H₀ (gCons g gs) (ns ++ ms) (gvCons dg dgs) := fun vs ds δ σ G H Qd Q S hd q k => by
  unfold gvCons at q
  split at q
  · cases hd with
    | cons hd hr =>
      refine ⟨_, _, rfl, h1 _ _ δ σ G H _ _ S hd q fun δ1 σ1 S1 k1 q1 => h2 _ _ δ1 σ1 G H _ _ S1 hr q1 fun δ2 σ2 S2 k2 q2 => k δ2 σ2 S2 ⟨k2.1.trans k1.1, fun j hj => ?_⟩ q2⟩
      rw [k2.2 j (fun z => hj (List.mem_append_right _ z)), k1.2 j (fun z => hj (List.mem_append_left _ z))]
  · exact q.elim
theorem gv_tup {n : Nat} (h : GsvD K H₀ gs ns dgs) : GvD K H₀ (gTup K n gs) ns (gvTup n dgs) := fun v d δ σ G H Qd Q S hd q k => by
  unfold gvTup at q
  split at q
  · obtain ⟨a, vs, rfl, h1, h2⟩ := dv_tuple hd
    exact ⟨a, vs, rfl, sqT_same S.sub.same h1, by rw [h2.len]; exact q.1, h _ _ δ σ G H _ _ S h2 q.2 k⟩
  · exact q.elim
noncomputable def dAsg (de : DE) (dg : DG) (e : DEnds) (δ : DEn) : Prop := de e.ex δ fun d => dg d δ e.nx
theorem sv_asg (h : EvD K H₀ E te de) (hg : GvD K H₀ g ns dg) : SvD K H₀ E (tAsg te g) (dAsg de dg) := fun δ σ G H e D hx S q L =>
  h e.ex δ σ G H _ _ hx S q fun v d G' H' x hd qd => hg v d δ σ G' H' _ _ (S.ext x) hd qd fun δ' σ' S' _ q' => L.nx δ' σ' G' H' x.g S' q'
noncomputable def dSetO (dl : DL) (i : Nat) (e : DEnds) (δ : DEn) : Prop := dl e.ex δ fun ds => e.nx (put (some (.own ds)) i δ)
theorem sv_setO (i : Nat) (h : OvD K H₀ E te dl) : SvD K H₀ E (tAsg te (gName i)) (dSetO dl i) := fun δ σ G H e D hx S q L =>
  h e.ex δ σ G H _ _ hx S q fun a vs ds G' H' x hn hg hh hd qd => L.nx _ _ G' H' x.g (S.setO x i hn hg hh hd) qd
noncomputable def noOwn : DEn → Bool
  | [] => true
  | some (.own _) :: _ => false
  | _ :: r => noOwn r
theorem noOwn_slot : ∀ {δ : DEn} {i : Nat} {ds : List PyData}, noOwn δ = true → slot δ i ≠ some (.own ds)
  | [], _, _, _, h => by cases h
  | some (.own _) :: _, _, _, h, _ => by cases h
  | some (.dat _) :: _, 0, _, _, h => by cases h
  | some (.exc _) :: _, 0, _, _, h => by cases h
  | some (.fz _ _) :: _, 0, _, _, h => by cases h
  | some (.fz _ _) :: r, i + 1, ds, h, e => noOwn_slot (δ := r) (i := i) (ds := ds) h e
  | some (.two _ _) :: _, 0, _, _, h => by cases h
  | some (.two _ _) :: r, i + 1, ds, h, e => noOwn_slot (δ := r) (i := i) (ds := ds) h e
  | none :: _, 0, _, _, h => by cases h
  | some (.exc _) :: r, i + 1, ds, h, e => noOwn_slot (δ := r) (i := i) (ds := ds) h e
  | some (.dat _) :: r, i + 1, ds, h, e => noOwn_slot (δ := r) (i := i) (ds := ds) h e
  | none :: r, i + 1, ds, h, e => noOwn_slot (δ := r) (i := i) (ds := ds) h e
theorem Sees.all2 {G H H' : Hp} {δ : DEn} {σ : L2.St} (S : Sees K H₀ G δ σ H) (h : noOwn δ = true) (sm : Same H H') : Sees K H₀ H' δ σ H' :=
  ⟨S.oldH.trans sm, .refl _, S.len, fun i s e => by
    obtain ⟨v, h1, h2⟩ := S.has i s e
    cases s with
    | dat d => exact ⟨v, h1, dv_same (S.sub.same.trans sm) h2⟩
    | two xs ys => exact h2.elim
    | fz as d => exact ⟨v, h1, FzIs.same (S.sub.same.trans sm) h2⟩
    | exc C =>
      obtain ⟨x, rfl, hx⟩ := h2
      exact ⟨_, h1, x, rfl, sm _ _ (S.sub.same _ _ hx)⟩
    | own ds => exact absurd e (noOwn_slot h), fun i j xs ys a e => absurd e (noOwn_slot h)⟩
noncomputable def frzAt (i : Nat) (δ : DEn) : DEn := match slot δ i with
  | some (.own ds) => put (some (.dat (.list ds))) i δ
  | _ => δ
noncomputable def dFrz (i : Nat) (d : DS) (e : DEnds) (δ : DEn) : Prop := d e (frzAt i δ)
theorem sv_frz (i : Nat) (h : SvD K H₀ E ts ds) : SvD K H₀ E ts (dFrz i ds) := fun δ σ G H e D hx S q L => by
  unfold dFrz frzAt at q
  split at q
  · rename_i xs hs
    obtain ⟨G', s, S'⟩ := S.frz hs
    exact h _ σ G' H e D hx S' q (L.mono s)
  · exact h δ σ G H e D hx S q L
noncomputable def dPar (i j : Nat) (dl : DL) (e : DEnds) (δ : DEn) : Prop := dl e.ex δ fun ds => match ds with
  | [d1, d2] => e.nx (put (some (.dat d2)) j (put (some (.dat d1)) i δ))
  | _ => False
theorem sv_par {n : Nat} (i j : Nat) (h : AvE K H₀ E t n dl) : SvD K H₀ E (tPar i j t) (dPar i j dl) := fun δ σ G H e D hx S q L =>
  h e.ex δ σ G H _ _ hx S q fun vs ds G' H' x hd _ qd => by
    split at qd
    · obtain ⟨v, w, rfl, h1, h2⟩ := dvs2 hd
      exact ⟨v, w, rfl, L.nx _ _ G' H' x.g (((S.ext x).setD i h1).setD j h2) qd⟩
    · exact qd.elim
noncomputable def dRaise (C : Addr) (dl : DL) (e : DEnds) (δ : DEn) : Prop := dl e.ex δ fun _ => e.ex C
theorem sv_raise {C : Addr} {n : Nat} (h : AvE K H₀ E t n dl) (hn : n ≤ 1000) : SvD K H₀ E (tRaise E C t) (dRaise C dl) := fun δ σ G H e D hx S q L =>
  h e.ex δ σ G H _ _ hx S q fun vs ds G' H' x hd q0 qd => ⟨Nat.le_of_lt (small1000 (by rw [hd.len, q0]; exact hn)), hx C H' (S.ext x).oldH qd⟩
noncomputable def dApp (i : Nat) (de : DE) (e : DEnds) (δ : DEn) : Prop := match slot δ i with
  | some (.own ds) => de e.ex δ fun d => ds.length < 1000 ∧ e.nx (put (some (.own (ds ++ [d]))) i δ)
  | _ => False
theorem sv_app (i : Nat) (h : EvD K H₀ E te de) : SvD K H₀ E (tDrop (tBM K "list" rAppend (tVar i) (tCons te tNil))) (dApp i de) := fun δ σ G H e D hx S q L => by
  unfold dApp at q
  split at q
  · rename_i ds hs
    obtain ⟨a, vs, h1, h2, h3, h4⟩ := S.ownAt hs
    refine ⟨_, h1, .inl ⟨rfl, _, SqL.of h3⟩, h e.ex δ σ G H _ _ hx S q fun v d G' H' x hd qd => ?_⟩
    obtain ⟨q1, q2⟩ := qd
    have S' := S.ext x
    exact ⟨a, vs, v, rfl, rfl, x.h _ _ h3, small1000 (by rw [h4.len]; omega), L.nx _ _ G' _ x.g (S'.updO hs h1 ((dvs_same x.g h4).append (.cons hd .nil))) q2⟩
  · exact q.elim
noncomputable def ItS (K : PySem.W.Frag) (J : It) (G : Hp) (ds : List PyData) : Prop := ∀ G' H', Same G G' → Sub G' H' → ∀ i,
  (∀ d, ds[i]? = some d → J.go i H' ∧ ∀ x H2, J.yld i H' x H2 → ∃ G2, Ext G' H' G2 H2 ∧ DV K G2 x d) ∧ (ds.length ≤ i → J.stop i H')
noncomputable def ItE (K : PySem.W.Frag) (J : It) (G H : Hp) (ds : List PyData) : Prop := ∀ G' H', Ext G H G' H' → ∀ i,
  (∀ d, ds[i]? = some d → J.go i H' ∧ ∀ x H2, J.yld i H' x H2 → ∃ G2, Ext G' H' G2 H2 ∧ DV K G2 x d) ∧ (ds.length ≤ i → J.stop i H')
theorem ItS.e {J : It} {G H : Hp} {ds : List PyData} (h : ItS K J G ds) : ItE K J G H ds := fun G' H' e => h G' H' e.g e.s
noncomputable def IvS (K : PySem.W.Frag) (H₀ : Hp) (E : XK) (wi : TI) (dl : DL) : Prop := ∀ ex δ σ G H Qd R, ExOk H₀ E ex → Sees K H₀ G δ σ H → dl ex δ Qd → (∀ J ds G' H', Ext G H G' H' → ItS K J G' ds → Qd ds → R J H') → wi σ H R
noncomputable def IvE (K : PySem.W.Frag) (H₀ : Hp) (E : XK) (wi : TI) (dl : DL) : Prop := ∀ ex δ σ G H Qd R, ExOk H₀ E ex → Sees K H₀ G δ σ H → dl ex δ Qd → (∀ J ds G' H', Ext G H G' H' → ItE K J G' H' ds → Qd ds → R J H') → wi σ H R
theorem IvS.e {wi : TI} (h : IvS K H₀ E wi dl) : IvE K H₀ E wi dl := fun ex δ σ G H Qd R hx S q k => h ex δ σ G H Qd R hx S q fun J ds G' H' e hi qd => k J ds G' H' e hi.e qd
theorem is_list (h : EvD K H₀ E te de) : IvS K H₀ E (iList K te) (dAsL de) := fun ex δ σ G H Qd R hx S q k =>
  h ex δ σ G H _ _ hx S q fun v d G' H' e hd qd => by
    cases d with
    | list ds =>
      obtain ⟨a, vs, rfl, h1, h2⟩ := dv_list hd
      refine ⟨a, rfl, ⟨vs, e.s.same.seq h1⟩, k _ ds G' H' e (fun G2 H2 s1 s2 i => ⟨fun d hi => ?_, fun hi => ⟨vs, s2.same.seq (s1.seq h1), by rw [h2.len]; exact hi⟩⟩) qd⟩
      obtain ⟨x, g1, g2⟩ := h2.at hi
      refine ⟨⟨vs, x, s2.same.seq (s1.seq h1), g1⟩, fun y H3 ⟨z, w⟩ => ?_⟩
      subst z
      have := w vs (s2.same.seq (s1.seq h1))
      rw [g1] at this
      cases this
      exact ⟨G2, .refl s2, dv_same s1 g2⟩
    | _ => exact qd.elim
theorem ie_list (h : LvD K H₀ E te dl) : IvE K H₀ E (iList K te) dl := fun ex δ σ G H Qd R hx S q k =>
  h ex δ σ G H _ _ hx S q fun a vs ds G' H' e h1 h2 qd => by
    refine ⟨a, rfl, ⟨vs, h1⟩, k _ ds G' H' e (fun G2 H2 e2 i => ⟨fun d hi => ?_, fun hi => ⟨vs, e2.h.seq h1, by rw [h2.len]; exact hi⟩⟩) qd⟩
    obtain ⟨x, g1, g2⟩ := h2.at hi
    refine ⟨⟨vs, x, e2.h.seq h1, g1⟩, fun y H3 ⟨z, w⟩ => ?_⟩
    subst z
    have := w vs (e2.h.seq h1)
    rw [g1] at this
    cases this
    exact ⟨G2, .refl e2.s, dv_same e2.g g2⟩
noncomputable def rngD (lo : Int) (n : Nat) (st : Int) : List PyData := (List.range n).map fun (k : Nat) => PyData.int (lo + (k : Int) * st)
theorem rngD_at {lo st : Int} {n i : Nat} {d : PyData} (h : (rngD lo n st)[i]? = some d) : i < n ∧ d = .int (lo + (i : Int) * st) := by
  unfold rngD at h
  rw [List.getElem?_map] at h
  cases q : (List.range n)[i]? with
  | none => rw [q] at h; cases h
  | some k =>
    rw [q] at h
    obtain ⟨h1, h2⟩ := List.getElem?_eq_some_iff.mp q
    simp only [List.getElem_range] at h2
    subst h2
    simp only [List.length_range] at h1
    simp only [Option.map_some, Option.some.injEq] at h
    exact ⟨h1, h.symm⟩
theorem rngD_len {lo st : Int} {n : Nat} : (rngD lo n st).length = n := by simp [rngD]
noncomputable def dRng1 (dl : DL) (ex : DX) (δ : DEn) (Q : List PyData → Prop) : Prop := dl ex δ fun ds => match ds with
  | [.int j] => (-(2 ^ 62) ≤ j ∧ j < 2 ^ 62) ∧ Q (rngD 0 j.toNat 1)
  | _ => False
noncomputable def dRng2 (dl : DL) (ex : DX) (δ : DEn) (Q : List PyData → Prop) : Prop := dl ex δ fun ds => match ds with
  | [.int i, .int j] => (-(2 ^ 62) ≤ i ∧ i < 2 ^ 62 ∧ -(2 ^ 62) ≤ j ∧ j < 2 ^ 62) ∧ Q (rngD i (j - i).toNat 1)
  | _ => False
theorem itS_r {lo : Int} {n : Nat} {G : Hp} : ItS K (Itr lo n) G (rngD lo n 1) := fun G' H' s1 s2 i => ⟨fun d hi => by
    obtain ⟨h1, rfl⟩ := rngD_at hi
    refine ⟨h1, fun x H2 ⟨e1, e2⟩ => ?_⟩
    subst e1 e2
    rw [Int.mul_one]
    exact ⟨G', .refl s2, .int _⟩, fun hi => by rw [rngD_len] at hi; exact hi⟩
theorem is_rng1 (h : AvD K H₀ E t dl) : IvS K H₀ E (iRng1 t) (dRng1 dl) := fun ex δ σ G H Qd R hx S q k =>
  h ex δ σ G H _ _ hx S q fun vs ds G' H' e hd qd => by
    split at qd
    · obtain ⟨x, rfl, h1⟩ := dvs1 hd
      cases dv_int h1
      exact ⟨_, rfl, qd.1.1, qd.1.2, k _ _ G' H' e itS_r qd.2⟩
    · exact qd.elim
theorem is_rng2 (h : AvD K H₀ E t dl) : IvS K H₀ E (iRng2 t) (dRng2 dl) := fun ex δ σ G H Qd R hx S q k =>
  h ex δ σ G H _ _ hx S q fun vs ds G' H' e hd qd => by
    split at qd
    · obtain ⟨x, y, rfl, h1, h2⟩ := dvs2 hd
      cases dv_int h1; cases dv_int h2
      exact ⟨_, _, rfl, qd.1, k _ _ G' H' e itS_r qd.2⟩
    · exact qd.elim
noncomputable def dFor (dl : DL) (dg : DG) (db : DS) (e : DEnds) (δ : DEn) : Prop := dl e.ex δ fun ds => ∃ I : Nat → DEn → Prop, I 0 δ ∧
  (∀ i d δ', ds[i]? = some d → I i δ' → dg d δ' fun δ2 => db { e with nx := I (i + 1), ct := I (i + 1), bk := e.nx } δ2) ∧ ∀ δ', I ds.length δ' → e.nx δ'
theorem sv_for {wi : TI} (hi : IvS K H₀ E wi dl) (hg : GvD K H₀ g ns dg) (hb : SvD K H₀ E ts ds) : SvD K H₀ E (tFor wi g ts) (dFor dl dg ds) := fun δ σ G H e D hx S q L =>
  hi e.ex δ σ G H _ _ hx S q fun J xs G1 H1 e1 it ⟨I, i0, step, fin⟩ => by
    refine ⟨fun i m σ H => m = xs.length - i ∧ i ≤ xs.length ∧ ∃ δ' G', Same G1 G' ∧ Sees K H₀ G' δ' σ H ∧ I i δ', ⟨_, rfl, Nat.zero_le _, δ, G1, Same.refl _, S.ext e1, i0⟩, ?_⟩
    rintro i m σ' H' ⟨rfl, hil, δ', G', sg, S', hI⟩
    obtain ⟨t1, t2⟩ := it G' H' sg S'.sub i
    by_cases hlt : i < xs.length
    · obtain ⟨g1, g2⟩ := t1 _ (List.getElem?_eq_getElem hlt)
      refine .inr ⟨g1, fun σ H => ∃ δ' G', Same G1 G' ∧ Sees K H₀ G' δ' σ H ∧ I (i + 1) δ', fun σ2 H2 z => ⟨_, by omega, rfl, hlt, z⟩, fun x H2 y => ?_⟩
      obtain ⟨G2, e2, hd⟩ := g2 x H2 y
      have S2 := S'.ext e2
      refine hg x _ δ' σ' G2 H2 _ _ S2 hd (step i _ δ' (List.getElem?_eq_getElem hlt) hI) fun δ3 σ3 S3 _ q3 => ?_
      have up : Same G1 G2 := sg.trans e2.g
      exact hb δ3 σ3 G2 H2 { e with nx := I (i + 1), ct := I (i + 1), bk := e.nx } _ hx S3 q3 ⟨fun δ4 σ4 G4 H4 s4 S4 q4 => ⟨δ4, G4, up.trans s4, S4, q4⟩, L.rt, fun δ4 σ4 G4 H4 s4 S4 q4 => L.nx δ4 σ4 G4 H4 (e1.g.trans (up.trans s4)) S4 q4, fun δ4 σ4 G4 H4 s4 S4 q4 => ⟨δ4, G4, up.trans s4, S4, q4⟩⟩
    · have : i = xs.length := by omega
      subst this
      exact .inl ⟨t2 (Nat.le_refl _), L.nx δ' σ' G' H' (e1.g.trans sg) S' (fin δ' hI)⟩
noncomputable def dWhile (dt : DT) (db : DS) (e : DEnds) (δ : DEn) : Prop := ∃ I : Nat → DEn → Prop, (∃ m, I m δ) ∧ ∀ m δ', I m δ' →
  dt e.ex δ' fun b => if b = true then db { e with nx := fun δ2 => ∃ k, k < m ∧ I k δ2, ct := fun δ2 => ∃ k, k < m ∧ I k δ2, bk := e.nx } δ' else e.nx δ'
theorem sv_while (h : TvD K H₀ E tt dt) (hb : SvD K H₀ E ts ds) : SvD K H₀ E (tWhile tt ts) (dWhile dt ds) := fun δ σ G H e D hx S ⟨I, ⟨m0, i0⟩, step⟩ L => by
  refine ⟨fun m σ H => ∃ δ' G', Same G G' ∧ Sees K H₀ G' δ' σ H ∧ I m δ', ⟨m0, δ, G, Same.refl _, S, i0⟩, ?_⟩
  rintro m σ' H' ⟨δ', G', sg, S', hI⟩
  refine h e.ex δ' σ' G' H' _ _ hx S' (step m δ' hI) fun b G2 H2 e2 q2 => ?_
  have S2 := S'.ext e2
  have up : Same G G2 := sg.trans e2.g
  cases b with
  | true =>
    have n1 : ∀ δ4 σ4 G4 H4, Same G2 G4 → Sees K H₀ G4 δ4 σ4 H4 → (∃ k, k < m ∧ I k δ4) → ∃ k, k < m ∧ ∃ δ' G', Same G G' ∧ Sees K H₀ G' δ' σ4 H4 ∧ I k δ' := fun δ4 σ4 G4 H4 s4 S4 ⟨k, hk, q4⟩ => ⟨k, hk, δ4, G4, up.trans s4, S4, q4⟩
    exact ⟨fun σ4 H4 => ∃ k, k < m ∧ ∃ δ' G', Same G G' ∧ Sees K H₀ G' δ' σ4 H4 ∧ I k δ', fun _ _ z => z, hb δ' σ' G2 H2 { e with nx := fun δ2 => ∃ k, k < m ∧ I k δ2, ct := fun δ2 => ∃ k, k < m ∧ I k δ2, bk := e.nx } _ hx S2 q2 ⟨n1, L.rt, fun δ4 σ4 G4 H4 s4 S4 q4 => L.nx δ4 σ4 G4 H4 (up.trans s4) S4 q4, n1⟩⟩
  | false => exact L.nx δ' σ' G2 H2 up S2 q2
noncomputable def capD (cap : List (Option Nat)) (δ : DEn) : DEn := match cap with
  | [] => []
  | none :: r => none :: capD r δ
  | some i :: r => slot δ i :: capD r δ
theorem capD_len : ∀ (cap : List (Option Nat)) (δ : DEn), (capD cap δ).length = cap.length
  | [], _ => rfl
  | none :: r, δ => by simp [capD, capD_len r δ]
  | some i :: r, δ => by simp [capD, capD_len r δ]
theorem capD_slot : ∀ {cap : List (Option Nat)} {δ : DEn} {j : Nat} {s : Sl}, slot (capD cap δ) j = some s → ∃ i, cap[j]? = some (some i) ∧ slot δ i = some s
  | [], _, _, _, h => by cases h
  | none :: r, δ, 0, s, h => by cases h
  | some i :: r, δ, 0, s, h => ⟨i, rfl, h⟩
  | none :: r, δ, j + 1, s, h => by
    obtain ⟨i, h1, h2⟩ := capD_slot (cap := r) (δ := δ) (j := j) h
    exact ⟨i, by simpa using h1, h2⟩
  | some _ :: r, δ, j + 1, s, h => by
    obtain ⟨i, h1, h2⟩ := capD_slot (cap := r) (δ := δ) (j := j) h
    exact ⟨i, by simpa using h1, h2⟩
theorem cap_mem {cap : List (Option Nat)} {j i : Nat} (h : cap[j]? = some (some i)) : i ∈ cap.filterMap id := List.mem_filterMap.mpr ⟨some i, List.mem_of_getElem? h, rfl⟩
theorem cap_inj : ∀ {cap : List (Option Nat)} {j k i : Nat}, (cap.filterMap id).Nodup → cap[j]? = some (some i) → cap[k]? = some (some i) → j = k
  | [], _, _, _, _, h, _ => by simp at h
  | none :: r, 0, _, _, _, h, _ => by simp at h
  | none :: r, _ + 1, 0, _, _, _, h => by simp at h
  | none :: r, j + 1, k + 1, i, n, h1, h2 => congrArg (· + 1) (cap_inj (cap := r) (by simpa using n) (by simpa using h1) (by simpa using h2))
  | some a :: r, 0, 0, _, _, _, _ => rfl
  | some a :: r, 0, k + 1, i, n, h1, h2 => by
    have e : a = i := by simpa using h1
    subst e
    have : a ∈ r.filterMap id := cap_mem (by simpa using h2)
    simp only [List.filterMap_cons, id, List.nodup_cons] at n
    exact absurd this n.1
  | some a :: r, j + 1, 0, i, n, h1, h2 => by
    have e : a = i := by simpa using h2
    subst e
    have : a ∈ r.filterMap id := cap_mem (by simpa using h1)
    simp only [List.filterMap_cons, id, List.nodup_cons] at n
    exact absurd this n.1
  | some a :: r, j + 1, k + 1, i, n, h1, h2 => congrArg (· + 1) (cap_inj (cap := r) (by
      simp only [List.filterMap_cons, id, List.nodup_cons] at n
      exact n.2) (by simpa using h1) (by simpa using h2))
noncomputable def CapSt (cap : List (Option Nat)) (σ σc : L2.St) : Prop := σc.length = cap.length ∧ ∀ (j i : Nat), cap[j]? = some (some i) → σc[j]? = some ((σ[i]?).bind id)
theorem capst0 {cap : List (Option Nat)} {σ : L2.St} : CapSt cap σ (capσ cap σ) := ⟨by simp [capσ], fun j i h => by
  unfold capσ
  rw [List.getElem?_map, h]
  rfl⟩
theorem capSees {cap : List (Option Nat)} {G H G' H' : Hp} {δ : DEn} {σ σc : L2.St} (S : Sees K H₀ G δ σ H) (e : Ext G H G' H') (hn : (cap.filterMap id).Nodup) (c : CapSt cap σ σc) : Sees K H₀ G' (capD cap δ) σc H' := by
  have S' := S.ext e
  refine ⟨S'.old, S'.sub, by rw [capD_len, c.1]; exact Nat.le_refl _, fun j s h => ?_, fun j k xs ys a h1 h2 e1 e2 => ?_⟩
  · obtain ⟨i, h1, h2⟩ := capD_slot h
    obtain ⟨v, h3, h4⟩ := S'.has i s h2
    refine ⟨v, ?_, h4⟩
    rw [c.2 j i h1, h3]
    rfl
  · obtain ⟨i, g1, g2⟩ := capD_slot h1
    obtain ⟨i', g3, g4⟩ := capD_slot h2
    obtain ⟨b, _, q1, _⟩ := S'.ownAt g2
    obtain ⟨b', _, q2, _⟩ := S'.ownAt g4
    rw [c.2 j i g1, q1] at e1
    rw [c.2 k i' g3, q2] at e2
    have z1 : b = a := by cases e1; rfl
    have z2 : b' = a := by cases e2; rfl
    subst z1; subst z2
    have := S'.sep i i' xs ys _ g2 g4 q1 q2
    subst this
    exact cap_inj hn g1 g3
noncomputable def dYes (_ex : DX) (_δ : DEn) (Q : Bool → Prop) : Prop := Q true
theorem tv_yes : TvD K H₀ E tYes dYes := fun ex δ σ G H Qd Q hx S q k => k true G H S.refl q
noncomputable def dLC (dl : DL) (cap : List (Option Nat)) (dg : DG) (dt : DT) (de : DE) (ex : DX) (δ : DEn) (Q : List PyData → Prop) : Prop := dl ex δ fun ds => ds.length ≤ 1000 ∧ ∃ I : Nat → List PyData → Prop, I 0 [] ∧
  (∀ i d acc, ds[i]? = some d → I i acc → dg d (capD cap δ) fun δ2 => dt (fun _ => False) δ2 fun b => if b = true then de (fun _ => False) δ2 fun y => I (i + 1) (acc ++ [y]) else I (i + 1) acc) ∧ ∀ acc, I ds.length acc → Q acc
theorem ov_lc {wi : TI} {cap : List (Option Nat)} (hi : IvE K H₀ E wi dl) (hg : GvD K H₀ g ns dg) (ht : TvD K H₀ E tt dt) (he : EvD K H₀ E te de) (hn : (cap.filterMap id).Nodup) (hns : ns.all (fun j => (cap[j]?.bind id).isNone) = true) : OvD K H₀ E (tLC wi cap g tt te) (dLC dl cap dg dt de) := fun ex δ σ G H Qd Q hx S q k =>
  hi ex δ σ G H _ _ hx S q fun J xs G1 H1 e1 it ⟨hlen, I, i0, step, fin⟩ => by
    intro D hD
    obtain ⟨eD, gD⟩ := ext_newL (xs := []) e1.s hD
    refine ⟨fun i m σc Hc => m = xs.length - i ∧ i ≤ xs.length ∧ CapSt cap σ σc ∧ ∃ G' acc ys, Ext G1 H1 G' Hc ∧ G' D = none ∧ Hc D = some (.lst ys) ∧ DVs K G' ys acc ∧ acc.length ≤ i ∧ I i acc,
      ⟨_, rfl, Nat.zero_le _, capst0, G1, [], [], eD, gD, upd_same, .nil, Nat.le_refl _, i0⟩, ?_⟩
    rintro i m σc Hc ⟨rfl, hil, cs, G', acc, ys, e', gd, hd, hv, hal, hI⟩
    obtain ⟨t1, t2⟩ := it G' Hc e' i
    by_cases hlt : i < xs.length
    · obtain ⟨g1, g2⟩ := t1 _ (List.getElem?_eq_getElem hlt)
      refine .inr ⟨g1, fun σ2 H2 => CapSt cap σ σ2 ∧ ∃ G' acc ys, Ext G1 H1 G' H2 ∧ G' D = none ∧ H2 D = some (.lst ys) ∧ DVs K G' ys acc ∧ acc.length ≤ i + 1 ∧ I (i + 1) acc, fun σ2 H2 z => ⟨_, by omega, rfl, hlt, z⟩, fun x H2 y => ?_⟩
      obtain ⟨G2, e2, hx2⟩ := g2 x H2 y
      have S2 : Sees K H₀ G2 (capD cap δ) σc H2 := capSees S (e1.trans (e'.trans e2)) hn cs
      refine hg x _ _ σc G2 H2 _ _ S2 hx2 (step i _ acc (List.getElem?_eq_getElem hlt) hI) fun δ3 σ3 S3 kp q3 => ?_
      have cs3 : CapSt cap σ σ3 := ⟨kp.1.trans cs.1, fun j z hj => by
        rw [kp.2 j (fun hm => by
          have := List.all_eq_true.mp hns j hm
          rw [hj] at this
          cases this)]
        exact cs.2 j z hj⟩
      refine ht (fun _ => False) δ3 σ3 G2 H2 _ _ exok0 S3 q3 fun b G4 H4 e4 q4 => ?_
      cases b with
      | true =>
        refine he (fun _ => False) δ3 σ3 G4 H4 _ _ exok0 (S3.ext e4) q4 fun y dy G5 H5 e5 hy q5 => ?_
        have e25 : Ext G' Hc G5 H5 := e2.trans (e4.trans e5)
        have gd5 : G5 D = none := e25.keep gd hd
        have hd5 : H5 D = some (.lst ys) := e25.h _ _ hd
        have e15 : Ext G1 H1 G5 H5 := e'.trans e25
        refine ⟨ys, hd5, small1000 (by rw [hv.len]; omega), cs3, G5, acc ++ [dy], ys ++ [y], ⟨e15.g, fun b o z => ?_, fun b => ?_, e15.n⟩, gd5, upd_same, (dvs_same e25.g hv).append (.cons hy .nil), by rw [List.length_append]; simp; exact hal, q5⟩
        · rw [upd_ne (ne_of_none z hD)]; exact e15.h b o z
        · by_cases w : b = D
          · subst w; exact .inr ⟨gd5, _, upd_same⟩
          · rw [upd_ne w]; exact e15.s b
      | false =>
        have e24 : Ext G' Hc G4 H4 := e2.trans e4
        exact ⟨cs3, G4, acc, ys, e'.trans e24, e24.keep gd hd, e24.h _ _ hd, dvs_same e24.g hv, Nat.le_succ_of_le hal, q4⟩
    · have : i = xs.length := by omega
      subst this
      exact .inl ⟨t2 (Nat.le_refl _), k D ys acc G' Hc (e1.trans e') (e1.h.free hD) gd hd hv (fin acc hI)⟩
end
noncomputable def startN : List Str → List PyData → DEn
  | [], _ => []
  | _ :: N, [] => none :: startN N []
  | _ :: N, d :: ds => some (.dat d) :: startN N ds
theorem startN_len : ∀ (N : List Str) (ds : List PyData), (startN N ds).length = N.length
  | [], _ => rfl
  | _ :: N, [] => congrArg (· + 1) (startN_len N [])
  | _ :: N, _ :: ds => congrArg (· + 1) (startN_len N ds)
theorem startN_slot : ∀ {N : List Str} {ds : List PyData} {i : Nat} {s : Sl}, slot (startN N ds) i = some s → ∃ d, ds[i]? = some d ∧ s = .dat d
  | [], _, _, _, h => by cases h
  | _ :: N, [], 0, _, h => by cases h
  | _ :: N, [], i + 1, s, h => by
    obtain ⟨d, h1, _⟩ := startN_slot (N := N) (ds := []) (i := i) h
    simp at h1
  | _ :: N, d :: ds, 0, s, h => by cases h; exact ⟨d, rfl, rfl⟩
  | _ :: N, _ :: ds, i + 1, s, h => by
    obtain ⟨d, h1, h2⟩ := startN_slot (N := N) (ds := ds) (i := i) h
    exact ⟨d, by simpa using h1, h2⟩
theorem sees_start {K : PySem.W.Frag} {H : Hp} {N : List Str} {vs : List V} {ds : List PyData} (h : DVs K H vs ds) : Sees K H H (startN N ds) (L2.start N vs) H := by
  refine ⟨Same.refl _, .refl _, ?_, fun i s e => ?_, fun i j xs ys a e => ?_⟩
  · rw [startN_len]
    simp only [L2.start, List.length_append, List.length_map, List.length_replicate]
    omega
  · obtain ⟨d, h1, rfl⟩ := startN_slot e
    obtain ⟨v, h2, h3⟩ := h.at h1
    refine ⟨v, ?_, h3⟩
    unfold L2.start
    rw [List.getElem?_append_left (by rw [List.length_map]; exact (List.getElem?_eq_some_iff.mp h2).1), List.getElem?_map, h2]
    rfl
  · obtain ⟨d, _, z⟩ := startN_slot e
    cases z
section
variable {P : Program} {w : World} {K : PySem.W.Frag} {mg : Str → Option Value} {base : Heap}
theorem okW {x qual : Str} {st : Stmt} {f : Addr} {fd : FuncData} {N ps : List Str} {k : Nat} {W : DW} (F : Fun K x qual st f fd) (S : FnScope N ps (defScope st)) (len : ∀ ds Q E, W ds Q E → ds.length = ps.length)
    (hbody : ∀ (cdv : Value) (A : Around) (outer : List Env) (s : Shared) (H : Hp) (E : XK), Room k (A.deeper (envOfC qual (defScope st) s.heap.objs.size f cdv)) →
      ∃ t, PSs (cxOf (CXE P w) P w K mg base N qual (defScope st) f cdv A outer s H E) (defBody st) t ∧ ∃ d, SvD K H E t d ∧ ∀ ds Q X, W ds Q X → d { nx := fun _ => Q (.dat .none), rt := Q, ex := X } (startN N ds)) : FnOk P w K mg base (CXE P w) (k + 1) f fd ps (spW K W) := by
  refine okE F S (fun vs H Q E h => ?_) (fun cdv A outer s H vs Q E hr h => ?_)
  · obtain ⟨ds, Qd, Ed, h1, h2, _⟩ := h
    rw [h1.len]; exact len _ _ _ h2
  · obtain ⟨ds, Qd, Ed, h1, h2, h3, h4⟩ := h
    obtain ⟨t, ht, d, hd, hq⟩ := hbody cdv A outer s H E hr
    refine ⟨t, ht, hd _ _ H H { nx := fun _ => Qd (.dat .none), rt := Qd, ex := Ed } _ h4 (sees_start h1) (hq ds Qd Ed h2) ⟨fun δ σ G H' _ S q => ?_, fun v s H' sm r q => h3 v s H' sm r q, fun _ _ _ _ _ _ z => z.elim, fun _ _ _ _ _ _ z => z.elim⟩⟩
    exact h3 .non (.dat .none) H' S.oldH .non q
end
noncomputable def kinds : List String := ["int", "bool", "str", "list", "tuple"]
theorem kit_of {K : PySem.W.Frag} (d : PyData) (n : String) (hn : kinds.contains n = true) : PySem.W.kitOne K (.type (tyD d)) (.type n) = some (isD n d) := by
  have hm : n = "int" ∨ n = "bool" ∨ n = "str" ∨ n = "list" ∨ n = "tuple" := by
    simpa [kinds] using hn
  have ht : tyD d = "NoneType" ∨ tyD d = "bool" ∨ tyD d = "int" ∨ tyD d = "str" ∨ tyD d = "list" ∨ tyD d = "tuple" ∨ tyD d = "dict" := by
    cases d <;> simp [tyD]
  have key : ∀ t n : String, t ≠ n → (PySem.W.kitOne K (.type t) (.type n) = PySem.W.kitCls K (.type t) (.type n)) := fun t n h => by
    unfold PySem.W.kitOne
    rw [if_neg (by simpa using h)]
  have same : ∀ n : String, PySem.W.kitOne K (.type n) (.type n) = some true := fun n => by
    unfold PySem.W.kitOne
    rw [if_pos (by simp)]
  unfold isD
  generalize tyD d = t at ht
  clear hn
  rcases ht with rfl | rfl | rfl | rfl | rfl | rfl | rfl <;> rcases hm with rfl | rfl | rfl | rfl | rfl <;>
    first
    | exact same _
    | (rw [key _ _ (by decide)]
       unfold PySem.W.kitCls PySem.W.subIn
       dsimp only
       rw [if_pos (by decide +kernel)]
       decide +kernel)
section
variable {X : Cx} {pins : List (Addr × Obj)} {σ : L2.St} {H : Hp} {s : Shared}
theorem isi_dv {A : Around} {Q : Value → Shared → Prop} {Ee : Value → Shared → Prop} {x : V} {d : PyData} {u c : Value} {b : Bool} (I : Inv X pins σ H s) (rx : RelV x u) (h : DV X.K H x d) (e : PySem.W.kitOne X.K (.type (tyD d)) c = some b) (hq : ∀ tk, Q (.bool b) { s with toks := tk }) :
    wpAny (model X.prog X.w) A (call (.builtin "isinstance") [u, c]) Q Ee s := by
  cases h with
  | non => exact isinst_ok I rx .non e hq
  | bl y => exact isinst_ok I rx (.bl y) e hq
  | int y => exact isinst_ok I rx (.int y) e hq
  | str y => exact isinst_ok I rx (.str y) e hq
  | @lst a xs ds hs hd =>
    cases (show u = Value.ref a from rx)
    obtain ⟨its, r, ⟨o, n, ho, hc, _, _⟩, _⟩ := I.list hs
    exact PySem.W.kia_one PySem.W.kitx_list I.kIn ⟨o, ho, hc⟩ e (fun z => nomatch z) hq
  | @tup a xs ds hs hd =>
    cases (show u = Value.ref a from rx)
    obtain ⟨its, r, ⟨o, ho, hc, n, _⟩, _⟩ := I.tuple hs
    exact PySem.W.kia_one PySem.W.kitx_tuple I.kIn ⟨o, ho, hc⟩ e (fun z => nomatch z) hq
  | dct hd => exact isinst_ok I rx (.dK hd) e hq
noncomputable def rIsi (K : PySem.W.Frag) : List V → Hp → VK → Prop := fun xs H Q => ∃ x d n, xs = [x, .ty n] ∧ kinds.contains n = true ∧ DV K H x d ∧ Q (.bl (isD n d)) H
theorem isiDK {K : PySem.W.Frag} (hK : X.K = K) : CallR X (.builtin "isinstance") (rIsi K) := by
  subst hK
  intro pins s σ H xs us Q I r h
  obtain ⟨x, d, n, rfl, hn, hd, q⟩ := h
  obtain ⟨u, v, rfl, ru, rv⟩ := vals2 r
  cases (show v = Value.type n from rv)
  exact isi_dv I ru hd (kit_of d n hn) fun tk => ⟨.bl _, H, I.tok tk, rfl, q⟩
end
section
variable {K : PySem.W.Frag} {H₀ : Hp} {E : XK} {te ta tb : TE} {da db de : DE} {dl dk : DL} {t : TA}
noncomputable def dIsi (n : String) (de : DE) (ex : DX) (δ : DEn) (Q : PyData → Prop) : Prop := de ex δ fun d => Q (.bool (isD n d))
theorem ev_isi {n : String} (hn : kinds.contains n = true) (h : BvD K H₀ E te de) : EvD K H₀ E (tCB (rIsi K) (tCons te (tCons (tC (.ty n)) tNil))) (dIsi n de) := fun ex δ σ G H Qd Q hx S q k =>
  h ex δ σ G H _ _ hx S q fun x d G1 H1 e1 h1 q1 => ⟨x, d, n, rfl, hn, h1, k _ _ G1 H1 e1 (.bl _) q1⟩
end
section
variable {dl : DL} {dg : DG} {db d1 d2 : DS} {e : DEnds} {δ : DEn}
theorem seq_mk (h : d1 { e with nx := d2 e } δ) : dSeq d1 d2 e δ := h
theorem cut_mk (I : DEn → Prop) (h : d1 { e with nx := I } δ) (k : ∀ δ', I δ' → d2 e δ') : dCut d1 d2 e δ := ⟨I, h, k⟩
theorem for_map {α : Type} (f : α → PyData) (xs : List α) (hl : ∀ Q, Q (xs.map f) → dl e.ex δ Q) (I : Nat → DEn → Prop) (h0 : I 0 δ)
    (hs : ∀ i x δ', xs[i]? = some x → I i δ' → dg (f x) δ' fun δ2 => db { e with nx := I (i + 1), ct := I (i + 1), bk := e.nx } δ2) (hd : ∀ δ', I xs.length δ' → e.nx δ') : dFor dl dg db e δ :=
  hl _ ⟨I, h0, fun i d δ' hi hI => by
    rw [List.getElem?_map] at hi
    cases q : xs[i]? with
    | none => rw [q] at hi; cases hi
    | some x =>
      rw [q] at hi
      cases hi
      exact hs i x δ' q hI, fun δ' hI => hd δ' (by rw [List.length_map] at hI; exact hI)⟩
theorem for_rng {lo st : Int} {n : Nat} (hl : ∀ Q, Q (rngD lo n st) → dl e.ex δ Q) (I : Nat → DEn → Prop) (h0 : I 0 δ)
    (hs : ∀ i δ', i < n → I i δ' → dg (.int (lo + (i : Int) * st)) δ' fun δ2 => db { e with nx := I (i + 1), ct := I (i + 1), bk := e.nx } δ2) (hd : ∀ δ', I n δ' → e.nx δ') : dFor dl dg db e δ :=
  hl _ ⟨I, h0, fun i d δ' hi hI => by
    obtain ⟨h1, rfl⟩ := rngD_at hi
    exact hs i δ' h1 hI, fun δ' hI => hd δ' (by rw [rngD_len] at hI; exact hI)⟩
variable {dt : DT} {de : DE} {cap : List (Option Nat)} {ex : DX} {Q : List PyData → Prop}
theorem lc_map {α β : Type} (f : α → PyData) (g : β → PyData) (F : α → List β) (xs : List α) (hlen : xs.length ≤ 1000) (hl : ∀ Q, Q (xs.map f) → dl ex δ Q)
    (hs : ∀ x ∈ xs, ∀ N : List PyData → Prop, ∀ acc, N (acc ++ (F x).map g) → dg (f x) (capD cap δ) fun δ2 => dt (fun _ => False) δ2 fun b => if b = true then de (fun _ => False) δ2 fun y => N (acc ++ [y]) else N acc)
    (hd : Q ((xs.flatMap F).map g)) : dLC dl cap dg dt de ex δ Q :=
  hl _ ⟨by rw [List.length_map]; exact hlen, fun i acc => acc = ((xs.take i).flatMap F).map g, by simp, fun i d acc hi hI => by
    rw [List.getElem?_map] at hi
    cases q : xs[i]? with
    | none => rw [q] at hi; cases hi
    | some x =>
      rw [q] at hi
      cases hi
      subst hI
      refine hs x (List.mem_of_getElem? q) (fun acc => acc = ((xs.take (i + 1)).flatMap F).map g) _ ?_
      have e : xs.take (i + 1) = xs.take i ++ [x] := by
        rw [List.take_add_one, q]; rfl
      rw [e]
      simp, fun acc hI => by
    subst hI
    rw [List.length_map, List.take_of_length_le (Nat.le_refl _)]
    exact hd⟩
end
noncomputable abbrev DXS := DEn → Addr → Prop
noncomputable abbrev DSX := DEnds → DXS → DEn → Prop
structure LkX (K : PySem.W.Frag) (H₀ G : Hp) (xd : DXS) (XE : XS) : Prop where
  ex : ∀ δ σ C G' H, Same G G' → Sees K H₀ G' δ σ H → xd δ C → XE σ (.ref C) none H
noncomputable abbrev nox (e : DEnds) : DEnds := { e with ex := fun _ => False }
theorem Lk.nox {K : PySem.W.Frag} {H₀ G : Hp} {e : DEnds} {D : Ends} (L : Lk K H₀ G e D) : Lk K H₀ G (nox e) D := ⟨L.nx, L.rt, L.bk, L.ct⟩
section
variable {K : PySem.W.Frag} {H₀ : Hp} {E : XK} {t : TA} {dl : DL} {ts : TS} {ds : DS} {tb tc : TSX} {db dc : DSX} {tt : TT} {dt : DT}
end
section
variable {K : PySem.W.Frag} {H₀ : Hp} {E : XK} {t : TA} {dl : DL} {ts : TS} {ds : DS} {tb tc : TSX} {db dc : DSX}
end
noncomputable def wLaw : DW := fun ds Q _ => ∃ ns : List Int, ds = [.list (ns.map .int)] ∧ ns.length ≤ 63 ∧ (∀ v ∈ ns, Builtin.Int.intBits v ≤ 1048576) ∧ Q (.dat (.bool true))
theorem dvs_of_ints {K : PySem.W.Frag} {H : Hp} : ∀ ns : List Int, DVs K H (ns.map V.int) (ns.map PyData.int)
  | [] => .nil
  | n :: ns => .cons (.int n) (dvs_of_ints ns)
theorem law_of {P : Program} {w : World} {K : PySem.W.Frag} {mg : Str → Option Value} {base : Heap} {k : Nat} {f : Addr} {fd : FuncData} {ps : List Str} (F : FnOk P w K mg base (CXE P w) k f fd ps (spW K wLaw)) : FnOk P w K mg base (CXE P w) k f fd ps (spLaw K) :=
  F.imp fun vs H Q E ⟨a, ns, e, hS, hl, hb, _, q⟩ => by
    subst e
    refine ⟨[.list (ns.map .int)], fun s => s = .dat (.bool true), fun _ => False, .cons (.lst hS (dvs_of_ints ns)) .nil, ⟨ns, rfl, hl, hb, rfl⟩, fun v s H' _ r hs => ?_, fun _ _ _ z => z.elim⟩
    subst hs
    cases dv_bl r
    exact q H'
section
variable {X : Cx} {pins : List (Addr × Obj)} {σ : L2.St} {H : Hp} {s : Shared} {h' : Heap}
theorem inv_turnedAll {t' : Nat} {ws : List Addr} (I : Inv X pins σ H s) (k : ∀ b o, b ∉ ws → s.heap.get? b = some o → h'.get? b = some o) (f : ∀ b ∈ ws, FpOk X pins H b) : Inv X pins σ H { s with heap := h', toks := t' } := by
  have nit : ∀ b u, H b = some u → b ∉ ws := fun b u e z => by rw [(f b z).1] at e; cases e
  refine I.step (g' := s.gens) (d' := s.drawn) (ch := ws) (fun b hb => ⟨(f b hb).2.2.2.1, (f b hb).2.1, (f b hb).2.2.2.2.1, (f b hb).2.2.2.2.2⟩) (fun b o _ _ hc e _ => k b o hc e) (fun b o _ _ hc e _ => ⟨o.slots, k b o hc e⟩) (fun _ _ _ _ n => n)
    (fun b o hc e => ⟨o, k b o hc e⟩) (fun _ _ e => e) (fun _ _ _ e => e) (fun b ps e => ⟨#[], by rw [e]; simp⟩) (fun m hm => ?_) (fun b u e => ?_) I.bare
  · obtain ⟨o, es, ep, ho, r⟩ := hm
    exact ⟨o, es, ep, k _ o (fun z => (f _ z).2.1 rfl) ho, r⟩
  · refine (I.hok b u e).stay (fun c v hc q => k c v ?_ q) (fun _ q => q) fun _ _ q => q
    rcases hc with z | z
    · rw [z]; exact nit b u e
    · exact nit c _ z
theorem inv_tup {T : Addr} {xs : List V} {its : List Value} (I : Inv X pins σ H s) (f : FpOk X pins H T) (h0 : X.s₀.heap.objs.size ≤ T) (hT : s.heap.IsTuple T its.toArray) (r : Vals xs its) (hz : xs.length ≤ sizeLine) : Inv X pins σ (upd H T (.tup xs)) s := by
  obtain ⟨f0, f1, f2, f3, f4, f5⟩ := f
  have neH : ∀ b o, H b = some o → b ≠ T := fun b o e z => by rw [z, f0] at e; cases e
  refine ⟨I.ok, I.os, I.bare, ⟨I.base.keep, I.base.slot, fun b o e n hb => ?_, I.base.there, fun b xs e => ?_, fun b o u e => ?_, fun b ps e => ?_⟩, I.loc, I.cell, ?_, fun y c e => ?_, fun p hp => ?_, fun b o e => ?_, I.len⟩
  · rw [upd_ne (Nat.ne_of_lt (Nat.lt_of_lt_of_le (Heap.lt_size e) h0))]
    exact I.base.free b o e n hb
  · have q := I.base.tups b xs e
    rw [upd_ne (neH b _ q)]; exact q
  · have q := I.base.frzs b o u e
    rw [upd_ne (neH b _ q)]; exact q
  · obtain ⟨m, q⟩ := I.base.tbls b ps e
    exact ⟨m, by rw [upd_ne (neH b _ q)]; exact q⟩
  · rw [upd_ne (Ne.symm f1)]; exact I.free
  · rw [upd_ne (f4 y c e)]; exact I.freeC y c e
  · obtain ⟨e, n, r⟩ := I.pin p hp
    exact ⟨e, by rw [upd_ne (f5 p hp)]; exact n, r⟩
  · by_cases hb : b = T
    · subst hb
      rw [upd_same] at e; cases e
      exact ⟨hz, its, r, hT⟩
    · rw [upd_ne hb] at e
      exact (I.hok b o e).stay (fun c v _ q => q) (fun c q => by rw [upd_ne (neH c _ q)]; exact q) fun c xs q => by rw [upd_ne (neH c _ q)]; exact q
end
noncomputable def Itz (K : PySem.W.Frag) (a b : Addr) : It :=
  ⟨fun i H => ∃ xs ys, SqL K H a xs ∧ SqL K H b ys ∧ i < xs.length ∧ i < ys.length,
   fun i H x H' => ∃ T u v, x = .ref T ∧ H T = none ∧ H' = upd H T (.tup [u, v]) ∧ (∀ xs, SqL K H a xs → xs[i]? = some u) ∧ ∀ ys, SqL K H b ys → ys[i]? = some v,
   fun i H => ∃ xs ys, SqL K H a xs ∧ SqL K H b ys ∧ (xs.length ≤ i ∨ ys.length ≤ i)⟩
theorem turn_zip {P : Program} {w : World} {K : PySem.W.Frag} {elts : List Expr} {k : Nat} {pos : Pos} {z TI TO i1 i2 l1 l2 : Addr} (D : ZipApart z TI TO i1 i2 l1 l2) :
    Turn P w K (.Tuple elts k pos) (Itz K l1 l2) [z, TI, TO, i1, i2] z (fun i h => IsZip h z TI TO .none ∧ IsPair h TI (.ref i1) (.ref i2) ∧ (∃ a b, IsPair h TO a b) ∧ h.IsListIter i1 l1 i ∧ h.IsListIter i2 l2 i) where
  mem := by simp
  obj := fun i h st b hb => by
    obtain ⟨hz, hTI, ⟨x, y, hTO⟩, ⟨o1, e1, _, d1⟩, ⟨o2, e2, _, d2⟩⟩ := st
    simp only [List.mem_cons, List.not_mem_nil, or_false] at hb
    rcases hb with rfl | rfl | rfl | rfl | rfl
    · exact ⟨_, hz, fun v q => by cases q⟩
    · exact ⟨_, hTI, fun v q => by cases q⟩
    · exact ⟨_, hTO, fun v q => by cases q⟩
    · exact ⟨o1, e1, fun v q => by rw [d1] at q; cases q⟩
    · exact ⟨o2, e2, fun v q => by rw [d2] at q; cases q⟩
  keep := fun i h h' st kp => by
    obtain ⟨hz, hTI, ⟨x, y, hTO⟩, h1, h2⟩ := st
    exact ⟨kp z (by simp) _ hz, kp TI (by simp) _ hTI, ⟨x, y, kp TO (by simp) _ hTO⟩, h1.at fun o e => kp i1 (by simp) o e, h2.at fun o e => kp i2 (by simp) o e⟩
  item := by
    intro X hP hw hK hc i pins s σ H E I hf st hg
    subst hP hw hK
    obtain ⟨xs, ys, q1, q2, g1, g2⟩ := hg
    obtain ⟨its1, rv1, p1, z1⟩ := I.list q1
    obtain ⟨its2, rv2, p2, z2⟩ := I.list q2
    obtain ⟨hz, hTI, ⟨x0, y0, hTO⟩, h1, h2⟩ := st
    have W := WalksT.zip2 (prog := X.prog) (w := X.w) (A := X.A) (I.ok.hd hc) z TI TO i1 i2 l1 l2 D its1.toArray its2.toArray
    have L1 := rv1.length
    have L2 := rv2.length
    refine W.item i s _ _ (by simp only [List.size_toArray]; omega) ⟨hz, hTI, ⟨_, _, hTO⟩, h1, h2, p1.isList, p2.isList⟩ fun T vals h' tk hv hsz hT hmid kk => ?_
    obtain ⟨x, y, hx, hy, rfl⟩ := hv
    refine ⟨_, rfl, W.go elts k pos i T { s with heap := h', toks := tk } _ _ hmid fun h3 hst kk3 => ?_⟩
    obtain ⟨u, e1⟩ : ∃ u, xs[i]? = some u := ⟨xs[i], List.getElem?_eq_getElem g1⟩
    obtain ⟨v, e2⟩ : ∃ v, ys[i]? = some v := ⟨ys[i], List.getElem?_eq_getElem g2⟩
    obtain ⟨x', e3, r1⟩ := rv1.get e1
    obtain ⟨y', e4, r2⟩ := rv2.get e2
    have ex : x' = x := by
      have : its1[i]? = some x := by simpa using hx
      rw [e3] at this; exact Option.some.inj this
    have ey : y' = y := by
      have : its2[i]? = some y := by simpa using hy
      rw [e4] at this; exact Option.some.inj this
    subst ex; subst ey
    have fw : ∀ b ∈ [z, TO, i1, i2], FpOk X pins H b := fun b hb => hf b (by
      simp only [List.mem_cons, List.not_mem_nil, or_false] at hb ⊢
      rcases hb with rfl | rfl | rfl | rfl <;> simp)
    have I1 : Inv X pins σ H { s with heap := h', toks := tk } := inv_turnedAll I kk fw
    have I2 : Inv X pins σ H { s with heap := h3, toks := tk } := inv_turnedAll (s := { s with heap := h', toks := tk }) I1 kk3 fw
    have nT := W.apart i T h' hmid
    have hT3 : h3.IsTuple T #[x', y'] := by
      obtain ⟨o, ho, r⟩ := hT
      exact ⟨o, kk3 T o nT ho, r⟩
    have fT : FpOk X pins H T := I.fpOk hsz (I.hok.fresh hsz)
    have I3 := inv_tup (xs := [u, v]) (its := [x', y']) I2 fT (Nat.le_trans I.sz hsz) hT3 (.cons r1 (.cons r2 .nil)) (Nat.le_of_lt (small1000 (by show 2 ≤ 1000; decide)))
    refine ⟨.ref T, upd H T (.tup [u, v]), I3, rfl, ⟨T, u, v, rfl, fT.1, rfl, fun xs' h => by rw [I.list_inj h q1]; exact e1, fun ys' h => by rw [I.list_inj h q2]; exact e2⟩, ⟨hst.1, hst.2.1, hst.2.2.1, hst.2.2.2.1, hst.2.2.2.2.1⟩, fun b hb => ?_⟩
    rw [upd_ne]
    · exact (hf b hb).1
    · intro e
      subst e
      have : ∃ o, s.heap.get? b = some o := by
        simp only [List.mem_cons, List.not_mem_nil, or_false] at hb
        rcases hb with rfl | rfl | rfl | rfl | rfl
        · exact ⟨_, hz⟩
        · exact ⟨_, hTI⟩
        · exact ⟨_, hTO⟩
        · obtain ⟨o, e, _⟩ := h1; exact ⟨o, e⟩
        · obtain ⟨o, e, _⟩ := h2; exact ⟨o, e⟩
      obtain ⟨o, e⟩ := this
      exact absurd (Heap.lt_size e) (Nat.not_lt.mpr hsz)
  done := by
    intro X hP hw hK hc i pins s σ H E I hf st hg
    subst hP hw hK
    obtain ⟨xs, ys, q1, q2, g⟩ := hg
    obtain ⟨its1, rv1, p1, z1⟩ := I.list q1
    obtain ⟨its2, rv2, p2, z2⟩ := I.list q2
    obtain ⟨hz, hTI, ⟨x0, y0, hTO⟩, h1, h2⟩ := st
    have L1 := rv1.length
    have L2 := rv2.length
    refine wpAny_pyNext_zip_end (I.ok.hd hc) D hz hTI hTO h1 h2 p1.isList p2.isList ?_ fun h' hk => ⟨rfl, ?_⟩
    · rcases g with g | g
      · exact .inl (by simp; omega)
      · exact .inr (by simp; omega)
    · exact inv_turnedAll (t' := s.toks) (ws := [z, TO, i1, i2]) I (fun b o hb e => hk b o (fun x => hb (by simp [x])) (fun x => hb (by simp [x])) (fun x => hb (by simp [x])) (fun x => hb (by simp [x])) e) fun b hb => hf b (by
        simp only [List.mem_cons, List.not_mem_nil, or_false] at hb ⊢
        rcases hb with rfl | rfl | rfl | rfl <;> simp)
  self := fun _ _ _ _ _ st h => wpAny_pyIter_zip st.1 h
theorem boot_zip : bootBuiltins "zip" = some (.type "zip") := by decide +kernel
theorem boot_reversed : bootBuiltins "reversed" = some (.type "reversed") := by decide +kernel
section
variable {X : Cx} {K : PySem.W.Frag}
noncomputable def iZip (K : PySem.W.Frag) (t : TA) : TI := fun σ H R => t σ H fun vs H1 => ∃ a b, vs = [.ref a, .ref b] ∧ (∃ xs, SqL K H1 a xs) ∧ (∃ ys, SqL K H1 b ys) ∧ R (Itz K a b) H1
theorem pi_zip {elts : List Expr} {k : Nat} {tpos : Pos} {a b : Expr} {ta : TA} {p pos : Pos} (hK : X.K = K) (hg : Gl X "zip") (hm : X.mg "zip" = none) (ha : PA X [a, b] ta) (hs : starEach [a, b] X.env = [(false, eval a X.env), (false, eval b X.env)] := by rfl) (hs2 : starEach [b] X.env = [(false, eval b X.env)] := by rfl) :
    PI X (.Tuple elts k tpos) (.Call (.Name "zip" p) [a, b] [] pos) (iZip K ta) := by
  subst hK
  intro pins s σ H R I h
  refine Call_ (ld_blt I hg hm boot_zip (PyProof.Rows.callWith_type1 (thn (ha pos pins s σ H _ I h) fun us s1 ⟨vs, H1, I1, r1, q1⟩ => ?_) (by rw [hs, hs2]) (by rw [hs2]; rfl)))
  obtain ⟨a', b', e, ⟨xs, g1⟩, ⟨ys, g2⟩, q⟩ := q1
  subst e
  obtain ⟨u, v, rfl, ru, rv⟩ := vals2 r1
  cases ru; cases rv
  obtain ⟨its1, rv1, p1, z1⟩ := I1.list g1
  obtain ⟨its2, rv2, p2, z2⟩ := I1.list g2
  have a1 : a' < s1.heap.objs.size := by obtain ⟨_, e, _⟩ := p1.isList; exact Heap.lt_size e
  have a2 : b' < s1.heap.objs.size := by obtain ⟨_, e, _⟩ := p2.isList; exact Heap.lt_size e
  refine call_zip_2 p1.isList p2.isList fun h' hz hTI hTO hi1 hi2 _ hk => wpAny_pyIter_zip hz ?_
  refine ⟨s1.heap.objs.size + 4, [s1.heap.objs.size + 4, s1.heap.objs.size + 2, s1.heap.objs.size + 3, s1.heap.objs.size, s1.heap.objs.size + 1], _, _, H1, rfl, I1.kept (t' := s1.toks) hk, turn_zip (zipApart_new a1 a2), ⟨hz, hTI, ⟨_, _, hTO⟩, hi1, hi2⟩, fun b hb => ?_, q⟩
  have hb2 : s1.heap.objs.size ≤ b := by
    simp only [List.mem_cons, List.not_mem_nil, or_false] at hb
    rcases hb with rfl | rfl | rfl | rfl | rfl <;> omega
  exact I1.fpOk hb2 (I1.hok.fresh hb2)
end
noncomputable def Itv (K : PySem.W.Frag) (a : Addr) (n : Nat) : It :=
  ⟨fun i H => ∃ xs, SqL K H a xs ∧ xs.length = n ∧ i < n, fun i H x H' => H' = H ∧ ∀ xs, SqL K H a xs → xs[n - 1 - i]? = some x, fun i _ => n ≤ i⟩
theorem turn_rev {P : Program} {w : World} {K : PySem.W.Frag} {tg : Expr} {it l : Addr} {n : Nat} : Turn P w K tg (Itv K l n) [it] it (fun i h => i ≤ n ∧ h.IsRevIter it l ((n : Int) - 1 - (i : Int))) where
  mem := by simp
  obj := fun i h st b hb => by
    have e : b = it := by simpa using hb
    subst e
    obtain ⟨_, o, e, c, d⟩ := st
    exact ⟨o, e, fun v z => by rw [d] at z; cases z⟩
  keep := fun i h h' st k => ⟨st.1, st.2.at fun o e => k it (by simp) o e⟩
  item := by
    intro X hP hw hK hc i pins s σ H E I hf st hg
    subst hP hw hK
    obtain ⟨xs, hq, hn, hi⟩ := hg
    obtain ⟨its, rv, p, hz⟩ := I.list hq
    obtain ⟨x, hx⟩ : ∃ x, xs[n - 1 - i]? = some x := ⟨_, List.getElem?_eq_getElem (by omega)⟩
    obtain ⟨u, hu, ru⟩ := rv.get hx
    obtain ⟨f0, f1, f2, f3, f4, f5⟩ := hf it (by simp)
    have e1 : (n : Int) - 1 - (i : Int) = ((n - 1 - i : Nat) : Int) := by omega
    have st2 := st.2
    rw [e1] at st2
    refine wpAny_pyNext_rev_item st2 p.isList (x := u) (by simpa using hu) fun h' st' sb => ?_
    have I1 : Inv X pins σ H { s with heap := h' } := I.turned (t' := s.toks) (fun b o hb e => (sb.2 b hb).trans e) f0 f1 f3 f4 f5
    obtain ⟨o, e, c, d⟩ := id st'
    refine ⟨u, rfl, go_of (s := { s with heap := h' }) e c d (by decide) ⟨x, H, I1, ru, ⟨rfl, fun ys hy => by rw [I.list_inj hy hq]; exact hx⟩, ⟨by omega, ?_⟩, fun b hb => (hf b hb).1⟩⟩
    have e2 : (n : Int) - 1 - ((i + 1 : Nat) : Int) = ((n - 1 - i : Nat) : Int) - 1 := by omega
    rw [e2]
    exact st'
  done := by
    intro X hP hw hK hc i pins s σ H E I hf st hg
    subst hP hw hK
    have hg' : n ≤ i := hg
    obtain ⟨f0, f1, f2, f3, f4, f5⟩ := hf it (by simp)
    have e1 : (n : Int) - 1 - (i : Int) = -1 := by have := st.1; omega
    have st2 := st.2
    rw [e1] at st2
    exact wpAny_pyNext_rev_end (I.ok.hd hc) st2 fun h' eb => ⟨rfl, I.turned (t' := s.toks) (fun b o hb e => eb b o hb e) f0 f1 f3 f4 f5⟩
  self := fun _ _ _ _ _ st h => wpAny_pyIter_revIter st.2 h
section
variable {X : Cx} {K : PySem.W.Frag}
noncomputable def iRev (K : PySem.W.Frag) (t : TA) : TI := fun σ H R => t σ H fun vs H1 => ∃ a xs, vs = [.ref a] ∧ SqL K H1 a xs ∧ R (Itv K a xs.length) H1
theorem pi_reversed {tg : Expr} {a : Expr} {ta : TA} {p pos : Pos} (hK : X.K = K) (hg : Gl X "reversed") (hm : X.mg "reversed" = none) (ha : PA X [a] ta) (hs : starEach [a] X.env = [(false, eval a X.env)] := by rfl) :
    PI X tg (.Call (.Name "reversed" p) [a] [] pos) (iRev K ta) := by
  subst hK
  intro pins s σ H R I h
  refine Call_ (ld_blt I hg hm boot_reversed (PyProof.Rows.callWith_type1 (thn (ha pos pins s σ H _ I h) fun us s1 ⟨vs, H1, I1, r1, q1⟩ => ?_) (by rw [hs]; rfl) (by rfl)))
  obtain ⟨a', xs, e, g1, q⟩ := q1
  subst e
  obtain ⟨u, rfl, ru⟩ := vals1 r1
  cases ru
  obtain ⟨its1, rv1, p1, z1⟩ := I1.list g1
  have L1 := rv1.length
  refine call_reversed_list p1.isList ?_
  have hit : (s1.heap.push (revObj a' ((its1.toArray.size : Int) - 1))).IsRevIter s1.heap.objs.size a' ((xs.length : Int) - 1 - ((0 : Nat) : Int)) := by
    refine ⟨_, Heap.get?_push_size _ rfl, rfl, ?_⟩
    simp only [revObj, List.size_toArray]
    rw [L1]
    simp
  refine wpAny_pyIter_revIter hit ?_
  refine ⟨s1.heap.objs.size, [s1.heap.objs.size], _, _, H1, rfl, I1.kept (t' := s1.toks) fun b o e => Heap.get?_push_of_some _ e, turn_rev, ⟨Nat.zero_le _, hit⟩, fun b hb => ?_, q⟩
  have e : b = s1.heap.objs.size := by simpa using hb
  subst e
  exact I1.fpOk (Nat.le_refl _) (I1.hok.fresh (Nat.le_refl _))
end
section
variable {K : PySem.W.Frag} {H₀ : Hp} {E : XK} {te ta tb : TE} {da db de : DE} {dl dk : DL} {t : TA}
noncomputable def pairD : List PyData → List PyData → List PyData
  | x :: xs, y :: ys => .tuple [x, y] :: pairD xs ys
  | _, _ => []
theorem pairD_len : ∀ xs ys : List PyData, (pairD xs ys).length = min xs.length ys.length
  | [], _ => by simp [pairD]
  | _ :: _, [] => by simp [pairD]
  | x :: xs, y :: ys => by simp [pairD, pairD_len xs ys]
theorem pairD_at : ∀ {xs ys : List PyData} {i : Nat} {d : PyData}, (pairD xs ys)[i]? = some d → ∃ x y, xs[i]? = some x ∧ ys[i]? = some y ∧ d = .tuple [x, y]
  | [], _, _, _, h => by simp [pairD] at h
  | _ :: _, [], _, _, h => by simp [pairD] at h
  | x :: xs, y :: ys, 0, d, h => ⟨x, y, rfl, rfl, by simpa [pairD] using h.symm⟩
  | x :: xs, y :: ys, i + 1, d, h => by
    obtain ⟨u, v, h1, h2, h3⟩ := pairD_at (xs := xs) (ys := ys) (i := i) (d := d) (by simpa [pairD] using h)
    exact ⟨u, v, by simpa using h1, by simpa using h2, h3⟩
noncomputable def dZip (dl dk : DL) (ex : DX) (δ : DEn) (Q : List PyData → Prop) : Prop := dl ex δ fun xs => dk ex δ fun ys => Q (pairD xs ys)
theorem itz_ok {a b : Addr} {vs ws : List V} {xs ys : List PyData} {G H : Hp} (s : Sub G H) (h1 : SqL K H a vs) (h2 : SqL K H b ws) (d1 : DVs K G vs xs) (d2 : DVs K G ws ys) (i : Nat) :
    (∀ d, (pairD xs ys)[i]? = some d → (Itz K a b).go i H ∧ ∀ x H2, (Itz K a b).yld i H x H2 → ∃ G2, Ext G H G2 H2 ∧ DV K G2 x d) ∧ ((pairD xs ys).length ≤ i → (Itz K a b).stop i H) := by
  refine ⟨fun d hi => ?_, fun hi => ⟨vs, ws, h1, h2, ?_⟩⟩
  · obtain ⟨x, y, e1, e2, rfl⟩ := pairD_at hi
    obtain ⟨u, f1, f2⟩ := d1.at e1
    obtain ⟨v, g1, g2⟩ := d2.at e2
    refine ⟨⟨vs, ws, h1, h2, (List.getElem?_eq_some_iff.mp f1).1, (List.getElem?_eq_some_iff.mp g1).1⟩, fun z H2 ⟨T, u', v', e3, hT, e4, k1, k2⟩ => ?_⟩
    subst e3 e4
    have q1 := k1 vs h1
    have q2 := k2 ws h2
    rw [f1] at q1; rw [g1] at q2
    cases q1; cases q2
    have e := ext_new (xs := [u, v]) s hT
    exact ⟨_, e, .tup (SqT.of upd_same) (.cons (dv_same e.g f2) (.cons (dv_same e.g g2) .nil))⟩
  · rw [pairD_len] at hi
    have := d1.len
    have := d2.len
    omega
theorem is_zip (h1 : EvD K H₀ E ta da) (h2 : EvD K H₀ E tb db) : IvS K H₀ E (iZip K (tCons ta (tCons tb tNil))) (dZip (dAsL da) (dAsL db)) := fun ex δ σ G H Qd R hx S q k =>
  h1 ex δ σ G H _ _ hx S q fun v d G1 H1 e1 hd q1 => by
    cases d with
    | list xs =>
      refine h2 ex δ σ G1 H1 _ _ hx (S.ext e1) q1 fun v2 d2 G2 H2 e2 hd2 q2 => ?_
      cases d2 with
      | list ys =>
        obtain ⟨a, vs, rfl, a1, a2⟩ := dv_list hd
        obtain ⟨b, ws, rfl, b1, b2⟩ := dv_list hd2
        refine ⟨a, b, rfl, ⟨vs, e2.h.seq (e1.s.same.seq a1)⟩, ⟨ws, e2.s.same.seq b1⟩, k _ _ G2 H2 (e1.trans e2) (fun G' H' s1 s2 i => ?_) q2⟩
        exact itz_ok s2 (s2.same.seq (s1.seq (e2.g.seq a1))) (s2.same.seq (s1.seq b1)) (dvs_same s1 (dvs_same e2.g a2)) (dvs_same s1 b2) i
      | _ => exact q2.elim
    | _ => exact q1.elim
theorem ie_zip (h1 : LvD K H₀ E ta dl) (h2 : LvD K H₀ E tb dk) : IvE K H₀ E (iZip K (tCons ta (tCons tb tNil))) (dZip dl dk) := fun ex δ σ G H Qd R hx S q k =>
  h1 ex δ σ G H _ _ hx S q fun a vs xs G1 H1 e1 a1 a2 q1 => h2 ex δ σ G1 H1 _ _ hx (S.ext e1) q1 fun b ws ys G2 H2 e2 b1 b2 q2 =>
    ⟨a, b, rfl, ⟨vs, e2.h.seq a1⟩, ⟨ws, b1⟩, k _ _ G2 H2 (e1.trans e2) (fun G' H' e i => itz_ok e.s (e.h.seq (e2.h.seq a1)) (e.h.seq b1) (dvs_same e.g (dvs_same e2.g a2)) (dvs_same e.g b2) i) q2⟩
noncomputable def dRev (dl : DL) (ex : DX) (δ : DEn) (Q : List PyData → Prop) : Prop := dl ex δ fun xs => Q xs.reverse
theorem itv_ok {a : Addr} {vs : List V} {xs : List PyData} {G H : Hp} (s : Sub G H) (h1 : SqL K H a vs) (d1 : DVs K G vs xs) (i : Nat) :
    (∀ d, xs.reverse[i]? = some d → (Itv K a vs.length).go i H ∧ ∀ x H2, (Itv K a vs.length).yld i H x H2 → ∃ G2, Ext G H G2 H2 ∧ DV K G2 x d) ∧ (xs.reverse.length ≤ i → (Itv K a vs.length).stop i H) := by
  have hl := d1.len
  refine ⟨fun d hi => ?_, fun hi => ?_⟩
  · have hlt : i < xs.length := by
      have := (List.getElem?_eq_some_iff.mp hi).1
      simpa using this
    rw [List.getElem?_reverse hlt] at hi
    obtain ⟨u, f1, f2⟩ := d1.at hi
    refine ⟨⟨vs, h1, rfl, by omega⟩, fun z H2 ⟨e1, k1⟩ => ?_⟩
    subst e1
    have q1 := k1 vs h1
    rw [hl, f1] at q1
    cases q1
    exact ⟨G, .refl s, f2⟩
  · show vs.length ≤ i
    rw [List.length_reverse] at hi
    omega
theorem is_rev (h1 : EvD K H₀ E ta da) : IvS K H₀ E (iRev K (tCons ta tNil)) (dRev (dAsL da)) := fun ex δ σ G H Qd R hx S q k =>
  h1 ex δ σ G H _ _ hx S q fun v d G1 H1 e1 hd q1 => by
    cases d with
    | list xs =>
      obtain ⟨a, vs, rfl, a1, a2⟩ := dv_list hd
      exact ⟨a, vs, rfl, e1.s.same.seq a1, k _ _ G1 H1 e1 (fun G' H' s1 s2 i => itv_ok s2 (s2.same.seq (s1.seq a1)) (dvs_same s1 a2) i) q1⟩
    | _ => exact q1.elim
end
section
variable {prog : Program} {w : World} {A : Around} {E : Value → Shared → Prop} {s : Shared}
end
section
variable {prog : Program} {w : World} {A : Around} {s : Shared} {R : Result → Shared → Prop}
variable {I : Addr} {fp wr : List Addr} {G : Array GenState → Array GenState → Prop} {n : Nat} {P : Nat → Value → Prop} {St : Nat → Shared → Prop}
end
section
variable {prog : Program} {w : World} {A : Around} {E : Value → Shared → Prop} {s : Shared}
end
section
variable {X : Cx} {pins : List (Addr × Obj)} {σ : L2.St} {H : Hp} {s : Shared}
end
section
variable {X : Cx} {K : PySem.W.Frag}
end
section
variable {K : PySem.W.Frag} {H₀ : Hp} {E : XK} {te : TE} {dl : DL}
end
end Dl
namespace Dl
open PySem PySem.Spec PyProof.Rows L2 Lx PySem.W
noncomputable def Ord (N : Nat) (p : Array Nat) : Prop := p.Perm (List.toArray (List.range N))
theorem Ord.lt {N : Nat} {p : Array Nat} (h : Ord N p) (hN : 0 < N) (i : Nat) : p.getD i 0 < N := by
  by_cases hi : i < p.size
  · have e : p.getD i 0 = p[i] := by simp [Array.getD, hi]
    rw [e]
    have hm : p[i] ∈ p := Array.getElem_mem hi
    have := h.mem_iff.mp hm
    simpa using this
  · have e : p.getD i 0 = 0 := by simp [Array.getD, hi]
    rw [e]; exact hN
section
variable {prog : Program} {w : World} {A : Around} {E : Value → Shared → Prop} {s : Shared}
end
section
variable {X : Cx} {K : PySem.W.Frag}
end
section
variable {K : PySem.W.Frag} {H₀ : Hp} {E : XK} {te ta : TE} {de da : DE} {dl : DL}
noncomputable abbrev pr (q : Int × Int) : PyData := .tuple [.int q.1, .int q.2]
end
section
variable {X : Cx}
noncomputable def rInsert : V → List V → Hp → VK → Prop := fun x vs H Q => ∃ l xs i y, x = .ref l ∧ vs = [.int i, y] ∧ H l = some (.lst xs) ∧ 0 ≤ i ∧ i ≤ (xs.length : Int) ∧ xs.length < sizeLine ∧ Q .non (upd H l (.lst (xs.take i.toNat ++ y :: xs.drop i.toNat)))
theorem mt_insert : MtM X "list.insert" rInsert := by
  intro pins s σ H x vs v us Q I rx rv h
  obtain ⟨l, xs, i, y, rfl, rfl, hH, h0, h1, hz, q⟩ := h
  cases rx
  obtain ⟨u, w', rfl, ⟨t, rfl⟩, ru⟩ := vals2 rv
  obtain ⟨z, its, n, r, hl, e⟩ := I.lstM hH
  have hlen := r.length
  have hn := line63
  refine call_meets F.slot_list_insert ⟨_, e, rfl⟩ F.entry_list_insert (F.args_list_insert_3 _ _ _) (PySem.AutoListH.list_insert_list_int_val_1 l its.toArray n i t w' (by simp [Builtin.List.listFitsIndex]; omega) (by rw [List.size_toArray]; omega)) ⟨e, ?_⟩
  refine ⟨.non, _, I.lset (its' := its.take i.toNat ++ w' :: its.drop i.toNat) hH e ?_ ((r.take _).append (.cons ru (r.drop _))) ?_, rfl, q⟩
  · have e1 : ¬ i < 0 := by omega
    have e2 : min i.toNat its.length = i.toNat := by omega
    simp only [e1, if_false, List.size_toArray, e2]
    apply Array.ext'
    simp [List.take_of_length_le]
  · rw [List.length_append, List.length_cons, List.length_take, List.length_drop]
    omega
end
section
variable {K : PySem.W.Frag} {H₀ : Hp} {E : XK} {te ta : TE} {de da : DE} {dl : DL}
noncomputable def dIns (i : Nat) (da de : DE) (e : DEnds) (δ : DEn) : Prop := match slot δ i with
  | some (.own ds) => da e.ex δ fun x => (match x with
    | .int k => de e.ex δ fun d => 0 ≤ k ∧ k ≤ (ds.length : Int) ∧ ds.length < 1000 ∧ e.nx (put (some (.own (ds.take k.toNat ++ d :: ds.drop k.toNat))) i δ)
    | _ => False)
  | _ => False
theorem sv_ins (i : Nat) (ha : BvD K H₀ E ta da) (h : EvD K H₀ E te de) : SvD K H₀ E (tDrop (tBM K "list" rInsert (tVar i) (tCons ta (tCons te tNil)))) (dIns i da de) := fun δ σ G H e D hx S q L => by
  unfold dIns at q
  split at q
  · rename_i ds hs
    obtain ⟨a, vs, h1, h2, h3, h4⟩ := S.ownAt hs
    refine ⟨_, h1, .inl ⟨rfl, _, SqL.of h3⟩, ha e.ex δ σ G H _ _ hx S q fun v d G' H' x hd qd => ?_⟩
    cases d with
    | int k =>
      cases dv_int hd
      refine h e.ex δ σ G' H' _ _ hx (S.ext x) qd fun v2 d2 G2 H2 x2 hd2 q2 => ?_
      obtain ⟨q0, q1, q3, q4⟩ := q2
      have x3 := x.trans x2
      have S' := S.ext x3
      have hl := h4.len
      exact ⟨a, vs, k, v2, rfl, rfl, x3.h _ _ h3, q0, by rw [hl]; exact q1, small1000 (by rw [hl]; omega), L.nx _ _ G2 _ x3.g (S'.updO hs h1 (((dvs_same x3.g h4).take _).append (.cons hd2 ((dvs_same x3.g h4).drop _)))) q4⟩
    | _ => exact qd.elim
  · exact q.elim
end
section
variable {X : Cx} {K : PySem.W.Frag}
end
section
variable {K : PySem.W.Frag} {H₀ : Hp} {E : XK} {ta tb : TE} {db : DE} {dl : DL}
end
theorem ktup {K : PySem.W.Frag} {a : Addr} {od : Option Addr} {n : Nat} {sl : Array (Option Value)} {its : Array Value} {xs : List V} {ds : List PyData} (h : K.lookup a = some ⟨.type "tuple", od, .seq its n, sl⟩) (hz : its.size ≤ sizeLine) (r : Vals xs its.toList) (d : ∀ H, DVs K H xs ds) (H : Hp) : DV K H (.ref a) (.tuple ds) :=
  .tup (.inr ⟨_, its, n, h, rfl, rfl, hz, r⟩) (d H)
noncomputable def eStr : Enc { x : Str // PyData.strOk x = true } := ⟨fun x => .str x.1, 0, by decide, fun x => x.2, fun _ => by simp [PyData.depth], fun x y => by simp [PyData.eqv, Subtype.ext_iff]⟩
noncomputable def rInT (K : PySem.W.Frag) (neg : Bool) : R2 := fun x y H Q => ∃ (α : Type) (e : Enc α) (a : α) (bs : List α), DV K H x (e.d a) ∧ DV K H y (.tuple (bs.map e.d)) ∧ ∀ k : Bool, (k = true ↔ a ∈ bs) → Q (.bl (if neg then !k else k)) H
section
variable {X : Cx} {K : PySem.W.Frag}
theorem notInTK (hK : X.K = K) (hu : X.A.units + 64 < cLine) : OpR X (compareOp .NotIn) (rInT K true) := by
  subst hK
  intro pins s σ H x y v u Q I rx ry h
  obtain ⟨α, e, a, bs, da, db, q⟩ := h
  obtain ⟨as, r1⟩ := dv_reads I da rx
  obtain ⟨cs, r2⟩ := dv_reads I db ry
  have h1 := e.depth a
  have h2 := e.small
  exact PySem.SeqAt.notIn_tuple_reads r2 r1 (enc_all e bs).1 (e.lay a) (by omega) ⟨.bl _, H, I, rfl, q _ (any_enc e a bs)⟩
end
noncomputable def oNInT (x y : PyData) (Q : PyData → Prop) : Prop := ∃ (α : Type) (e : Enc α) (a : α) (bs : List α), x = e.d a ∧ y = .tuple (bs.map e.d) ∧ ∀ k : Bool, (k = true ↔ a ∈ bs) → Q (.bool !k)
section
variable {K : PySem.W.Frag}
theorem ro_notInT : ROp K (rInT K true) oNInT := by
  rintro G H x y dx dy Qd Q hx hy ⟨α, e, a, bs, rfl, rfl, q⟩ k
  exact ⟨α, e, a, bs, hx, hy, fun c hc => k _ _ (.bl _) (q c hc)⟩
end
section
variable {X : Cx} {K : PySem.W.Frag}
end
section
variable {K : PySem.W.Frag}
end
section
variable {prog : Program} {w : World} {A : Around} {E : Value → Shared → Prop}
theorem draw_list {it l : Addr} {items : Array Value} (hh : A.handled = none) (hne : l ≠ it) : ∀ (n i : Nat) (s : Shared) (Q : List Value → Shared → Prop), s.heap.IsListIter it l i → s.heap.IsList l items → i + n ≤ items.size →
    (∀ h' tk, h'.IsListIter it l (i + n) → h'.IsList l items → (∀ b o, b ≠ it → s.heap.get? b = some o → h'.get? b = some o) → Q ((items.toList.drop i).take n) { s with heap := h', toks := tk }) → wpAny (model prog w) A (draw (.ref it) n) Q E s
  | 0, i, s, Q, hit, hl, _, hQ => by
    show wpAny _ _ (pure []) Q E s
    exact wpAny_pure (by simpa using hQ s.heap s.toks hit hl fun _ _ _ e => e)
  | n + 1, i, s, Q, hit, hl, hle, hQ => by
    have hlt : i < items.size := by omega
    show wpAny _ _ (pyNext (.ref it) >>= _) Q E s
    refine wpAny_bind ((Walks.list hh it l hne items).item i s _ _ hlt ⟨hit, hl⟩ fun v h₁ tk₁ hP hst hk₁ => ?_)
    refine wpAny_bind (wpAny_holding (draw_list hh hne n (i + 1) _ _ hst.1 hst.2 (by omega) fun h₂ tk₂ hit₂ hl₂ hk₂ => wpAny_pure ?_))
    have hv : items[i] = v := by
      have := hP
      rw [Array.getElem?_eq_getElem hlt] at this
      exact Option.some.inj this
    have hd : items.toList.drop i = v :: items.toList.drop (i + 1) := by
      rw [← hv]
      simp [List.drop_eq_getElem_cons, hlt]
    have := hQ h₂ tk₂ (by rw [show i + (n + 1) = i + 1 + n by omega]; exact hit₂) hl₂ fun b o hb e => hk₂ b o hb (hk₁ b o (by simpa using hb) e)
    rw [hd, List.take_succ_cons] at this
    exact this
theorem unpackItems_list {s : Shared} {l : Addr} {items : Array Value} {Q : List Value → Shared → Prop} (hh : A.handled = none) (hl : s.heap.IsList l items)
    (hQ : ∀ h' tk, (∀ b o, s.heap.get? b = some o → h'.get? b = some o) → Q items.toList { s with heap := h', toks := tk }) : wpAny (model prog w) A (unpackItems (.ref l) items.size none) Q E s := by
  have hlt : l ≠ s.heap.objs.size := by obtain ⟨o, ho, _⟩ := hl; exact Nat.ne_of_lt (Heap.lt_size ho)
  unfold unpackItems
  refine wpAny_bind ?_
  · unfold notIterableAtAll
    refine wpAny_bind (wpAny_specialOf hl.typeIs slot_list_iter.lookup ?_)
    refine wpAny_pure ?_
    simp only [Bool.false_eq_true, if_false]
    refine wpAny_bind (wpAny_holding (wpAny_pyIter_list hl ?_))
    refine wpAny_bind (wpAny_holding (draw_list hh hlt items.size 0 _ _ ⟨_, Heap.get?_push_size _ rfl, rfl, rfl⟩ (hl.push _) (by omega) fun h₁ tk₁ hit₁ hl₁ hk₁ => ?_))
    have hall : List.take items.size (List.drop 0 items.toList) = items.toList := by
      rw [List.drop_zero]; exact List.take_of_length_le (by simp)
    rw [hall]
    rw [if_neg (by simp)]
    refine wpAny_bind (wpAny_holding ((Walks.list hh _ l hlt items).done _ _ _ ⟨by simpa using hit₁, hl₁⟩ fun h₂ tk₂ hk₂ => ?_))
    simp only [Option.isSome_none, Bool.false_eq_true, if_false]
    refine wpAny_pure (hQ h₂ tk₂ fun b o e => ?_)
    have hb : b ≠ s.heap.objs.size := Nat.ne_of_lt (Heap.lt_size e)
    exact hk₂ b o (by simpa using hb) (hk₁ b o hb (Heap.get?_push_of_some _ e))
theorem assign_Tuple_list {s : Shared} {env : Env} {elts : List Expr} {x1} {pos : Pos} {l : Addr} {items : Array Value} {Q : Unit → Shared → Prop} (hh : A.handled = none) (hl : s.heap.IsList l items)
    (hn : (assignEach elts env).length = items.size) (hstar : (assignEach elts env).findIdx? (·.1) = none)
    (h : ∀ h' tk, (∀ b o, s.heap.get? b = some o → h'.get? b = some o) → wpAny (model prog w) A (assignInOrder ((assignEach elts env).map (·.2)) items.toList) Q E { s with heap := h', toks := tk }) :
    wpAny (model prog w) A (assign (.Tuple elts x1 pos) env (.ref l)) Q E s := by
  rw [assign_Tuple]
  refine wpAny_bind (wpAny_standAt ?_)
  unfold unpack
  rw [hn, hstar]
  exact wpAny_bind (wpAny_holding (unpackItems_list hh hl h))
end
noncomputable def gLstU (K : PySem.W.Frag) (n : Nat) (t : TGs) : TG := fun v σ H Q => ∃ a xs, v = .ref a ∧ SqL K H a xs ∧ xs.length = n ∧ t xs σ H Q
section
variable {X : Cx} {K : PySem.W.Frag}
theorem pglK {es : List Expr} {k : Nat} {pos : Pos} {t : TGs} {n : Nat} (hK : X.K = K) (hc : X.calm = true) (h : PGs X es t)
    (hn : (assignEach es X.env).length = n := by rfl) (hst : (assignEach es X.env).findIdx? (·.1) = none := by rfl) : PG X (.Tuple es k pos) (gLstU K n t) := by
  subst hK
  intro pins s σ H v u Q I r hw
  obtain ⟨a, xs, e1, hq, hl, hw⟩ := hw
  subst e1
  cases r
  obtain ⟨its, rv, pl, hz⟩ := I.list hq
  refine assign_Tuple_list (I.ok.hd hc) pl.isList (by simp [hn, ← hl, rv.length]) hst fun h' tk hx => ?_
  exact h pins _ σ H xs _ Q (I.kept (t' := tk) hx) (by simpa using rv) hw
end
noncomputable def gvLst (n : Nat) (dgs : DGs) (d : PyData) (δ : DEn) (Q : DEn → Prop) : Prop := match d with
  | .list ds => ds.length = n ∧ dgs ds δ Q
  | _ => False
section
variable {K : PySem.W.Frag} {H₀ : Hp}
theorem sqL_same {H H' : Hp} {a : Addr} {xs : List V} (e : Same H H') (h : SqL K H a xs) : SqL K H' a xs := by
  rcases h with (h | ⟨o, h⟩) | h
  · exact .inl (.inl (e _ _ h))
  · exact .inl (.inr ⟨o, e _ _ h⟩)
  · exact .inr h
theorem gv_lst {n : Nat} {gs : TGs} {ns : List Nat} {dgs : DGs} (h : GsvD K H₀ gs ns dgs) : GvD K H₀ (gLstU K n gs) ns (gvLst n dgs) := fun v d δ σ G H Qd Q S hd q k => by
  unfold gvLst at q
  split at q
  · obtain ⟨a, vs, rfl, h1, h2⟩ := dv_list hd
    exact ⟨a, vs, rfl, sqL_same S.sub.same h1, by rw [h2.len]; exact q.1, h _ _ δ σ G H _ _ S h2 q.2 k⟩
  · exact q.elim
end
noncomputable def tNoS : TS := fun _ _ _ => False
theorem ps_no {X : Cx} {st : Stmt} : PS X st tNoS := fun _ _ _ _ _ _ h => h.elim
noncomputable def dNoS : DS := fun _ _ => False
theorem sv_no {K : PySem.W.Frag} {H₀ : Hp} {E : XK} : SvD K H₀ E tNoS dNoS := fun _ _ _ _ _ _ _ _ q _ => q.elim
local macro_rules | `(tactic| walk_at "o") => `(tactic| first | omega | (refine (fun (h : @Eq Nat _ _) => ?_); omega))
noncomputable abbrev IsTri (h : Heap) (T : Addr) (a b c : Value) : Prop := h.get? T = some { cls := .type "tuple", data := .seq #[a, b, c] }
theorem typeCall_zip3 (a b c : Value) : checkTypeCall "zip" ⟨[a, b, c], []⟩ = pure () := by kernel_rfl
theorem newCall_zip3 (a b c : Value) : checkBuiltinCall "zip.__new__" ⟨[.type "zip", a, b, c], []⟩ = pure () := by kernel_rfl
theorem args_init4 (a b c d : Value) : argsOk "object.__init__" ⟨[a, b, c, d], []⟩ := by
  unfold argsOk; rw [signature?_of (id := "object.__init__") (n := ['_', '_', 't', 'i', 'n', 'i', '_', '_']) (o := ['t', 'c', 'e', 'j', 'b', 'o']) (by kernel_rfl) F.owner_object]; kernel_rfl
section
variable {prog : Program} {w : World} {A : Around} {E : Value → Shared → Prop} {s : Shared}
theorem upd_tri {T : Addr} {a b c x : Value} {k : Nat} {Q : Unit → Shared → Prop} (hT : IsTri s.heap T a b c)
    (h : ∀ h', h'.get? T = some { cls := .type "tuple", data := .seq ((#[a, b, c] : Array Value).setIfInBounds k x) } → Heap.SameBut T s.heap h' → Q () { s with heap := h' }) :
    wpAny (model prog w) A (updateSeq T (·.setIfInBounds k x)) Q E s := by
  refine wpAny_updateSeq hT rfl (h _ ?_ (Heap.SameBut.update ..))
  rw [Heap.get?_update_self _ hT rfl]
  simp [Obj.mapSeq]
theorem zip3_item {n l1 l2 l3 : Nat} {k : Nat} {xs ys zs : Array Value} {x y v a b c : Value} {Q : Value → Shared → Prop} (L1 : l1 < n) (L2 : l2 < n) (L3 : l3 < n)
    (hz : IsZip s.heap (n + 5) (n + 3) (n + 4) .none) (hTI : IsTri s.heap (n + 3) (.ref n) (.ref (n + 1)) (.ref (n + 2))) (hTO : IsTri s.heap (n + 4) a b c)
    (h1 : s.heap.IsListIter n l1 k) (h2 : s.heap.IsListIter (n + 1) l2 k) (h3 : s.heap.IsListIter (n + 2) l3 k) (g1 : s.heap.IsList l1 xs) (g2 : s.heap.IsList l2 ys) (g3 : s.heap.IsList l3 zs)
    (hx : xs[k]? = some x) (hy : ys[k]? = some y) (hv : zs[k]? = some v)
    (hQ : ∀ h', IsZip h' (n + 5) (n + 3) (n + 4) (rawInt s.heap.objs.size) → IsTri h' (n + 4) x y v → h'.IsListIter n l1 (k + 1) → h'.IsListIter (n + 1) l2 (k + 1) → h'.IsListIter (n + 2) l3 (k + 1) → IsTri h' s.heap.objs.size x y v →
      (∀ (d : Nat) o, d ∉ ([n, n + 1, n + 2, n + 4, n + 5] : List Nat) → s.heap.get? d = some o → h'.get? d = some o) → Q (.ref s.heap.objs.size) { s with heap := h' }) :
    wpAny (model prog w) A (Builtin.«zip.__next__» ⟨[.ref (n + 5)], []⟩) (fun fin s' => ∃ v, fin = .done (.ret v) ∧ Q v s') E s := by
  show wpAny _ _ (field (.ref (n + 5)) 2 >>= _) _ _ _
  refine wpAny_bind (wpAny_field hz rfl (x := .bool false) rfl ?_)
  show wpAny _ _ (field (.ref (n + 5)) 3 >>= _) _ _ _
  refine wpAny_bind (wpAny_field hz rfl (x := .ref (n + 3)) rfl ?_)
  refine wpAny_bind (wpAny_seqItems hTI rfl ?_)
  show wpAny _ _ (Builtin.SmallTypes.ownedTupleIsFree (.ref (n + 5)) >>= _) _ _ _
  refine wpAny_bind ?_
  unfold Builtin.SmallTypes.ownedTupleIsFree
  refine wpAny_bind (wpAny_field hz rfl (x := .none) rfl (wpAny_pure ?_))
  simp only [if_true]
  refine wpAny_bind (wpAny_rule ?_)
  refine wpAny_bind (wpAny_field hz rfl (x := .ref (n + 4)) rfl ?_)
  refine wpAny_bind (wpAny_setField_rec hz (by simp) fun h₁ hz₁ hs₁ => ?_)
  replace hz₁ : IsZip h₁ (n + 5) (n + 3) (n + 4) .ellipsis := hz₁
  have q1 : ∀ (d : Nat) o, d ≠ n + 5 → s.heap.get? d = some o → h₁.get? d = some o := fun d o hd e => hs₁.extBut d o hd e
  refine wpAny_bind ?_
  simp only [List.zipIdx_cons, List.zipIdx_nil, List.forIn_cons, List.forIn_nil]
  refine wpAny_bind (wpAny_bind (wpAny_onRaise ?_))
  show wpAny _ _ (Builtin.SmallTypes.nextOf (.ref n) >>= _) _ _ _
  refine wpAny_bind (wpAny_nextOf_list_item (h1.at fun o e => q1 n o (by walk_at "o") e) (g1.at fun o e => q1 l1 o (by walk_at "o") e) hx fun h₂ i1 hs₂ => wpAny_pure ?_)
  have q2 : ∀ (d : Nat) o, d ≠ n + 5 → d ≠ n → s.heap.get? d = some o → h₂.get? d = some o := fun d o a1 a2 e => hs₂.extBut d o a2 (q1 d o a1 e)
  have z2 : IsZip h₂ (n + 5) (n + 3) (n + 4) .ellipsis := hs₂.extBut _ _ (by walk_at "o") hz₁
  have t2 : IsTri h₂ (n + 4) a b c := q2 _ _ (by walk_at "o") (by walk_at "o") hTO
  refine wpAny_bind (wpAny_seqItems t2 rfl ?_)
  refine wpAny_bind (upd_tri t2 fun h₃ t3 hs₃ => ?_)
  replace t3 : IsTri h₃ (n + 4) x b c := t3
  have q3 : ∀ (d : Nat) o, d ≠ n + 5 → d ≠ n → d ≠ n + 4 → s.heap.get? d = some o → h₃.get? d = some o := fun d o a1 a2 a3 e => hs₃.extBut d o a3 (q2 d o a1 a2 e)
  have z3 : IsZip h₃ (n + 5) (n + 3) (n + 4) .ellipsis := hs₃.extBut _ _ (by walk_at "o") z2
  have j3 : h₃.IsListIter n l1 (k + 1) := i1.at fun o e => hs₃.extBut n o (by walk_at "o") e
  refine wpAny_bind (wpAny_letGo (wpAny_pure ?_))
  refine wpAny_bind (wpAny_bind (wpAny_onRaise ?_))
  show wpAny _ _ (Builtin.SmallTypes.nextOf (.ref (n + 1)) >>= _) _ _ _
  refine wpAny_bind (wpAny_nextOf_list_item (h2.at fun o e => q3 (n + 1) o (by walk_at "o") (by walk_at "o") (by walk_at "o") e) (g2.at fun o e => q3 l2 o (by walk_at "o") (by walk_at "o") (by walk_at "o") e) hy fun h₄ i2 hs₄ => wpAny_pure ?_)
  have q4 : ∀ (d : Nat) o, d ≠ n + 5 → d ≠ n → d ≠ n + 4 → d ≠ n + 1 → s.heap.get? d = some o → h₄.get? d = some o := fun d o a1 a2 a3 a4 e => hs₄.extBut d o a4 (q3 d o a1 a2 a3 e)
  have z4 : IsZip h₄ (n + 5) (n + 3) (n + 4) .ellipsis := hs₄.extBut _ _ (by walk_at "o") z3
  have j4 : h₄.IsListIter n l1 (k + 1) := j3.at fun o e => hs₄.extBut n o (by walk_at "o") e
  have t4 : IsTri h₄ (n + 4) x b c := hs₄.extBut _ _ (by walk_at "o") t3
  refine wpAny_bind (wpAny_seqItems t4 rfl ?_)
  refine wpAny_bind (upd_tri t4 fun h₅ t5 hs₅ => ?_)
  replace t5 : IsTri h₅ (n + 4) x y c := t5
  have q5 : ∀ (d : Nat) o, d ≠ n + 5 → d ≠ n → d ≠ n + 4 → d ≠ n + 1 → s.heap.get? d = some o → h₅.get? d = some o := fun d o a1 a2 a3 a4 e => hs₅.extBut d o a3 (q4 d o a1 a2 a3 a4 e)
  have z5 : IsZip h₅ (n + 5) (n + 3) (n + 4) .ellipsis := hs₅.extBut _ _ (by walk_at "o") z4
  have j5 : h₅.IsListIter n l1 (k + 1) := j4.at fun o e => hs₅.extBut n o (by walk_at "o") e
  have m5 : h₅.IsListIter (n + 1) l2 (k + 1) := i2.at fun o e => hs₅.extBut (n + 1) o (by walk_at "o") e
  refine wpAny_bind (wpAny_letGo (wpAny_pure ?_))
  refine wpAny_bind (wpAny_bind (wpAny_onRaise ?_))
  show wpAny _ _ (Builtin.SmallTypes.nextOf (.ref (n + 2)) >>= _) _ _ _
  refine wpAny_bind (wpAny_nextOf_list_item (h3.at fun o e => q5 (n + 2) o (by walk_at "o") (by walk_at "o") (by walk_at "o") (by walk_at "o") e) (g3.at fun o e => q5 l3 o (by walk_at "o") (by walk_at "o") (by walk_at "o") (by walk_at "o") e) hv fun h₆ i3 hs₆ => wpAny_pure ?_)
  have z6 : IsZip h₆ (n + 5) (n + 3) (n + 4) .ellipsis := hs₆.extBut _ _ (by walk_at "o") z5
  have j6 : h₆.IsListIter n l1 (k + 1) := j5.at fun o e => hs₆.extBut n o (by walk_at "o") e
  have m6 : h₆.IsListIter (n + 1) l2 (k + 1) := m5.at fun o e => hs₆.extBut (n + 1) o (by walk_at "o") e
  have t6 : IsTri h₆ (n + 4) x y c := hs₆.extBut _ _ (by walk_at "o") t5
  refine wpAny_bind (wpAny_seqItems t6 rfl ?_)
  refine wpAny_bind (upd_tri t6 fun h₇ t7 hs₇ => ?_)
  replace t7 : IsTri h₇ (n + 4) x y v := t7
  have z7 : IsZip h₇ (n + 5) (n + 3) (n + 4) .ellipsis := hs₇.extBut _ _ (by walk_at "o") z6
  have j7 : h₇.IsListIter n l1 (k + 1) := j6.at fun o e => hs₇.extBut n o (by walk_at "o") e
  have m7 : h₇.IsListIter (n + 1) l2 (k + 1) := m6.at fun o e => hs₇.extBut (n + 1) o (by walk_at "o") e
  have p7 : h₇.IsListIter (n + 2) l3 (k + 1) := i3.at fun o e => hs₇.extBut (n + 2) o (by walk_at "o") e
  have q7 : ∀ (d : Nat) o, d ∉ ([n, n + 1, n + 2, n + 4, n + 5] : List Nat) → s.heap.get? d = some o → h₇.get? d = some o := fun d o hd e => by
    simp only [List.mem_cons, List.not_mem_nil, or_false, not_or] at hd
    obtain ⟨a1, a2, a3, a4, a5⟩ := hd
    exact hs₇.extBut d o a4 (hs₆.extBut d o a3 (q5 d o a5 a1 a4 a2 e))
  refine wpAny_bind (wpAny_letGo (wpAny_pure (wpAny_pure ?_)))
  refine wpAny_bind (wpAny_seqItems t7 rfl ?_)
  refine wpAny_bind (wpAny_newTuple ?_)
  have hsz : h₇.objs.size = s.heap.objs.size := by rw [hs₇.1, hs₆.1, hs₅.1, hs₄.1, hs₃.1, hs₂.1, hs₁.1]
  have lz : n + 5 < h₇.objs.size := Heap.lt_size z7
  show wpAny _ _ (Builtin.SmallTypes.ownedTupleHandOut (.ref (n + 5)) (.ref h₇.objs.size) >>= _) _ _ _
  refine wpAny_bind ?_
  unfold Builtin.SmallTypes.ownedTupleHandOut
  have z8 : IsZip (h₇.push { cls := .type "tuple", data := .seq #[x, y, v] }) (n + 5) (n + 3) (n + 4) .ellipsis := Heap.get?_push_of_some _ z7
  refine wpAny_bind (wpAny_setField_rec z8 (by simp) fun h₉ z9 hs₉ => ?_)
  replace z9 : IsZip h₉ (n + 5) (n + 3) (n + 4) (rawInt h₇.objs.size) := z9
  refine wpAny_setField_rec z9 (by simp) fun hA zA hsA => ?_
  replace zA : IsZip hA (n + 5) (n + 3) (n + 4) (rawInt h₇.objs.size) := zA
  have up : ∀ (d : Nat) o, d ≠ n + 5 → h₇.get? d = some o → hA.get? d = some o := fun d o hd e => hsA.extBut d o hd (hs₉.extBut d o hd (Heap.get?_push_of_some _ e))
  have tA : IsTri hA h₇.objs.size x y v := hsA.extBut _ _ (by walk_at "o") (hs₉.extBut _ _ (by walk_at "o") (Heap.get?_push_size _ rfl))
  rw [hsz] at zA tA
  refine wpAny_pure ⟨_, rfl, ?_⟩
  show Q (.ref h₇.objs.size) _
  rw [hsz]
  exact hQ hA zA (up _ _ (by walk_at "o") t7) (j7.at fun o e => up n o (by walk_at "o") e) (m7.at fun o e => up (n + 1) o (by walk_at "o") e) (p7.at fun o e => up (n + 2) o (by walk_at "o") e) tA fun d o hd e => up d o (fun z => hd (by simp [z])) (q7 d o hd e)
theorem zip3_end {n l1 l2 l3 : Nat} {k : Nat} {xs ys zs : Array Value} {a b c : Value} {Q : Fin → Shared → Prop} (hh : A.handled = none) (L1 : l1 < n) (L2 : l2 < n) (L3 : l3 < n)
    (hz : IsZip s.heap (n + 5) (n + 3) (n + 4) .none) (hTI : IsTri s.heap (n + 3) (.ref n) (.ref (n + 1)) (.ref (n + 2))) (hTO : IsTri s.heap (n + 4) a b c)
    (h1 : s.heap.IsListIter n l1 k) (h2 : s.heap.IsListIter (n + 1) l2 k) (h3 : s.heap.IsListIter (n + 2) l3 k) (g1 : s.heap.IsList l1 xs) (g2 : s.heap.IsList l2 ys) (g3 : s.heap.IsList l3 zs)
    (hend : xs[k]? = none ∨ ys[k]? = none ∨ zs[k]? = none)
    (hE : ∀ h' e, (∀ (d : Nat) o, d ∉ ([n, n + 1, n + 2, n + 4, n + 5] : List Nat) → s.heap.get? d = some o → h'.get? d = some o) → (∃ o, h'.get? e = some o ∧ o.cls = .type "StopIteration") → E (.ref e) { s with heap := h' }) :
    wpAny (model prog w) A (Builtin.«zip.__next__» ⟨[.ref (n + 5)], []⟩) Q E s := by
  show wpAny _ _ (field (.ref (n + 5)) 2 >>= _) _ _ _
  refine wpAny_bind (wpAny_field hz rfl (x := .bool false) rfl ?_)
  show wpAny _ _ (field (.ref (n + 5)) 3 >>= _) _ _ _
  refine wpAny_bind (wpAny_field hz rfl (x := .ref (n + 3)) rfl ?_)
  refine wpAny_bind (wpAny_seqItems hTI rfl ?_)
  show wpAny _ _ (Builtin.SmallTypes.ownedTupleIsFree (.ref (n + 5)) >>= _) _ _ _
  refine wpAny_bind ?_
  unfold Builtin.SmallTypes.ownedTupleIsFree
  refine wpAny_bind (wpAny_field hz rfl (x := .none) rfl (wpAny_pure ?_))
  simp only [if_true]
  refine wpAny_bind (wpAny_rule ?_)
  refine wpAny_bind (wpAny_field hz rfl (x := .ref (n + 4)) rfl ?_)
  refine wpAny_bind (wpAny_setField_rec hz (by simp) fun h₁ hz₁ hs₁ => ?_)
  replace hz₁ : IsZip h₁ (n + 5) (n + 3) (n + 4) .ellipsis := hz₁
  have q1 : ∀ (d : Nat) o, d ≠ n + 5 → s.heap.get? d = some o → h₁.get? d = some o := fun d o hd e => hs₁.extBut d o hd e
  have stop : ∀ (h₂ : Heap) (e : Addr), IsZip h₂ (n + 5) (n + 3) (n + 4) .ellipsis → (∀ (d : Nat) o, d ∉ ([n, n + 1, n + 2, n + 4, n + 5] : List Nat) → s.heap.get? d = some o → h₂.get? d = some o) → (∃ o, h₂.get? e = some o ∧ o.cls = .type "StopIteration") →
      ∀ (R : Unit → Shared → Prop), (∀ h₃ : Heap, (∀ (d : Nat) o, d ∉ ([n, n + 1, n + 2, n + 4, n + 5] : List Nat) → s.heap.get? d = some o → h₃.get? d = some o) → (∃ o, h₃.get? e = some o ∧ o.cls = .type "StopIteration") → R () { s with heap := h₃ }) → ∀ E', wpAny (model prog w) A (setField (.ref (n + 5)) 0 .none) R E' { s with heap := h₂ } := fun h₂ e z2 k2 ⟨oe, ho, hc⟩ R hR E' => by
    have ne : e ≠ n + 5 := fun x => by
      subst x; rw [z2] at ho; cases ho; simp at hc
    refine wpAny_setField_rec z2 (by simp) fun h₃ _ hs₃ => hR h₃ (fun d o hd x => hs₃.extBut d o (fun y => hd (by simp [y])) (k2 d o hd x)) ⟨oe, hs₃.extBut _ _ ne ho, hc⟩
  refine wpAny_bind ?_
  simp only [List.zipIdx_cons, List.zipIdx_nil, List.forIn_cons, List.forIn_nil]
  refine wpAny_bind (wpAny_bind (wpAny_onRaise ?_))
  show wpAny _ _ (Builtin.SmallTypes.nextOf (.ref n) >>= _) _ _ _
  have b1 : h₁.IsListIter n l1 k := h1.at fun o e => q1 n o (by walk_at "o") e
  have b2 : h₁.IsList l1 xs := g1.at fun o e => q1 l1 o (by walk_at "o") e
  cases hx : xs[k]? with
  | none =>
    refine wpAny_bind (wpAny_nextOf_list_end hh b1 b2 hx fun h₂ e hs₂ he => ?_)
    refine stop h₂ e (hs₂ _ _ (by walk_at "o") hz₁) (fun d o hd x => ?_) he _ (fun h₃ k3 e3 => hE h₃ e k3 e3) _
    simp only [List.mem_cons, List.not_mem_nil, or_false, not_or] at hd
    exact hs₂ d o hd.1 (q1 d o hd.2.2.2.2 x)
  | some x =>
    refine wpAny_bind (wpAny_nextOf_list_item b1 b2 hx fun h₂ i1 hs₂ => wpAny_pure ?_)
    have q2 : ∀ (d : Nat) o, d ≠ n + 5 → d ≠ n → s.heap.get? d = some o → h₂.get? d = some o := fun d o a1 a2 e => hs₂.extBut d o a2 (q1 d o a1 e)
    have z2 : IsZip h₂ (n + 5) (n + 3) (n + 4) .ellipsis := hs₂.extBut _ _ (by walk_at "o") hz₁
    have t2 : IsTri h₂ (n + 4) a b c := q2 _ _ (by walk_at "o") (by walk_at "o") hTO
    refine wpAny_bind (wpAny_seqItems t2 rfl ?_)
    refine wpAny_bind (upd_tri t2 fun h₃ t3 hs₃ => ?_)
    replace t3 : IsTri h₃ (n + 4) x b c := t3
    have q3 : ∀ (d : Nat) o, d ≠ n + 5 → d ≠ n → d ≠ n + 4 → s.heap.get? d = some o → h₃.get? d = some o := fun d o a1 a2 a3 e => hs₃.extBut d o a3 (q2 d o a1 a2 e)
    have z3 : IsZip h₃ (n + 5) (n + 3) (n + 4) .ellipsis := hs₃.extBut _ _ (by walk_at "o") z2
    refine wpAny_bind (wpAny_letGo (wpAny_pure ?_))
    refine wpAny_bind (wpAny_bind (wpAny_onRaise ?_))
    show wpAny _ _ (Builtin.SmallTypes.nextOf (.ref (n + 1)) >>= _) _ _ _
    have c1 : h₃.IsListIter (n + 1) l2 k := h2.at fun o e => q3 (n + 1) o (by walk_at "o") (by walk_at "o") (by walk_at "o") e
    have c2 : h₃.IsList l2 ys := g2.at fun o e => q3 l2 o (by walk_at "o") (by walk_at "o") (by walk_at "o") e
    cases hy : ys[k]? with
    | none =>
      refine wpAny_bind (wpAny_nextOf_list_end hh c1 c2 hy fun h₄ e hs₄ he => ?_)
      refine stop h₄ e (hs₄ _ _ (by walk_at "o") z3) (fun d o hd x => ?_) he _ (fun h₅ k5 e5 => hE h₅ e k5 e5) _
      simp only [List.mem_cons, List.not_mem_nil, or_false, not_or] at hd
      exact hs₄ d o hd.2.1 (q3 d o hd.2.2.2.2 hd.1 hd.2.2.2.1 x)
    | some y =>
      have hv : zs[k]? = none := by
        rcases hend with h | h | h
        · rw [hx] at h; cases h
        · rw [hy] at h; cases h
        · exact h
      refine wpAny_bind (wpAny_nextOf_list_item c1 c2 hy fun h₄ i2 hs₄ => wpAny_pure ?_)
      have q4 : ∀ (d : Nat) o, d ≠ n + 5 → d ≠ n → d ≠ n + 4 → d ≠ n + 1 → s.heap.get? d = some o → h₄.get? d = some o := fun d o a1 a2 a3 a4 e => hs₄.extBut d o a4 (q3 d o a1 a2 a3 e)
      have z4 : IsZip h₄ (n + 5) (n + 3) (n + 4) .ellipsis := hs₄.extBut _ _ (by walk_at "o") z3
      have t4 : IsTri h₄ (n + 4) x b c := hs₄.extBut _ _ (by walk_at "o") t3
      refine wpAny_bind (wpAny_seqItems t4 rfl ?_)
      refine wpAny_bind (upd_tri t4 fun h₅ t5 hs₅ => ?_)
      have q5 : ∀ (d : Nat) o, d ≠ n + 5 → d ≠ n → d ≠ n + 4 → d ≠ n + 1 → s.heap.get? d = some o → h₅.get? d = some o := fun d o a1 a2 a3 a4 e => hs₅.extBut d o a3 (q4 d o a1 a2 a3 a4 e)
      have z5 : IsZip h₅ (n + 5) (n + 3) (n + 4) .ellipsis := hs₅.extBut _ _ (by walk_at "o") z4
      refine wpAny_bind (wpAny_letGo (wpAny_pure ?_))
      refine wpAny_bind (wpAny_bind (wpAny_onRaise ?_))
      show wpAny _ _ (Builtin.SmallTypes.nextOf (.ref (n + 2)) >>= _) _ _ _
      refine wpAny_bind (wpAny_nextOf_list_end hh (h3.at fun o e => q5 (n + 2) o (by walk_at "o") (by walk_at "o") (by walk_at "o") (by walk_at "o") e) (g3.at fun o e => q5 l3 o (by walk_at "o") (by walk_at "o") (by walk_at "o") (by walk_at "o") e) hv fun h₆ e hs₆ he => ?_)
      refine stop h₆ e (hs₆ _ _ (by walk_at "o") z5) (fun d o hd x => ?_) he _ (fun h₇ k7 e7 => hE h₇ e k7 e7) _
      simp only [List.mem_cons, List.not_mem_nil, or_false, not_or] at hd
      exact hs₆ d o hd.2.2.1 (q5 d o hd.2.2.2.2 hd.1 hd.2.2.2.1 hd.2.1 x)
theorem next_zip3_item {n l1 l2 l3 : Nat} {k : Nat} {xs ys zs : Array Value} {x y v a b c : Value} {Q : Option Value → Shared → Prop} (L1 : l1 < n) (L2 : l2 < n) (L3 : l3 < n)
    (hz : IsZip s.heap (n + 5) (n + 3) (n + 4) .none) (hTI : IsTri s.heap (n + 3) (.ref n) (.ref (n + 1)) (.ref (n + 2))) (hTO : IsTri s.heap (n + 4) a b c)
    (h1 : s.heap.IsListIter n l1 k) (h2 : s.heap.IsListIter (n + 1) l2 k) (h3 : s.heap.IsListIter (n + 2) l3 k) (g1 : s.heap.IsList l1 xs) (g2 : s.heap.IsList l2 ys) (g3 : s.heap.IsList l3 zs)
    (hx : xs[k]? = some x) (hy : ys[k]? = some y) (hv : zs[k]? = some v)
    (hQ : ∀ h', IsZip h' (n + 5) (n + 3) (n + 4) (rawInt s.heap.objs.size) → IsTri h' (n + 4) x y v → h'.IsListIter n l1 (k + 1) → h'.IsListIter (n + 1) l2 (k + 1) → h'.IsListIter (n + 2) l3 (k + 1) → IsTri h' s.heap.objs.size x y v →
      (∀ (d : Nat) o, d ∉ ([n, n + 1, n + 2, n + 4, n + 5] : List Nat) → s.heap.get? d = some o → h'.get? d = some o) → Q (some (.ref s.heap.objs.size)) { s with heap := h' }) :
    wpAny (model prog w) A (pyNext (.ref (n + 5))) Q E s := by
  have hT : s.TypeIs (.ref (n + 5)) "zip" := ⟨_, hz, rfl⟩
  unfold pyNext
  exact wpAny_bind (wpAny_attempt (wpAny_callSpecial?_slot (name := Str.ofString "__next__") hT F.slot_zip_next
    (wpAny_call_entry F.slot_zip_next hT F.entry_zip_next
      (zip3_item L1 L2 L3 hz hTI hTO h1 h2 h3 g1 g2 g3 hx hy hv fun h' a1 a2 a3 a4 a5 a6 a7 => wpAny_pure (hQ h' a1 a2 a3 a4 a5 a6 a7)) (F.args_zip_next_1 _))))
theorem next_zip3_end {n l1 l2 l3 : Nat} {k : Nat} {xs ys zs : Array Value} {a b c : Value} {Q : Option Value → Shared → Prop} (hh : A.handled = none) (L1 : l1 < n) (L2 : l2 < n) (L3 : l3 < n)
    (hz : IsZip s.heap (n + 5) (n + 3) (n + 4) .none) (hTI : IsTri s.heap (n + 3) (.ref n) (.ref (n + 1)) (.ref (n + 2))) (hTO : IsTri s.heap (n + 4) a b c)
    (h1 : s.heap.IsListIter n l1 k) (h2 : s.heap.IsListIter (n + 1) l2 k) (h3 : s.heap.IsListIter (n + 2) l3 k) (g1 : s.heap.IsList l1 xs) (g2 : s.heap.IsList l2 ys) (g3 : s.heap.IsList l3 zs)
    (hend : xs[k]? = none ∨ ys[k]? = none ∨ zs[k]? = none)
    (hQ : ∀ h', (∀ (d : Nat) o, d ∉ ([n, n + 1, n + 2, n + 4, n + 5] : List Nat) → s.heap.get? d = some o → h'.get? d = some o) → Q none { s with heap := h' }) : wpAny (model prog w) A (pyNext (.ref (n + 5))) Q E s := by
  have hT : s.TypeIs (.ref (n + 5)) "zip" := ⟨_, hz, rfl⟩
  unfold pyNext
  refine wpAny_bind (wpAny_attempt (wpAny_callSpecial?_slot (name := Str.ofString "__next__") hT F.slot_zip_next
    (wpAny_call_entry F.slot_zip_next hT F.entry_zip_next (zip3_end hh L1 L2 L3 hz hTI hTO h1 h2 h3 g1 g2 g3 hend fun h' e hk he => ?_) (F.args_zip_next_1 _))))
  obtain ⟨o, ho, hc⟩ := he
  refine wpAny_bind (wpAny_isInstance (T := "StopIteration") (b := true) ⟨o, ho, hc⟩ isSubtype_stop ?_)
  exact wpAny_pure (hQ _ hk)
end
noncomputable abbrev z3a (h : Heap) (l1 : Addr) : Heap := h.push { cls := .type "list_iterator", data := .fields #[.ref l1, .int 0 0] }
noncomputable abbrev z3b (h : Heap) (l1 l2 : Addr) : Heap := (z3a h l1).push { cls := .type "list_iterator", data := .fields #[.ref l2, .int 0 0] }
noncomputable abbrev z3c (h : Heap) (l1 l2 l3 : Addr) : Heap := (z3b h l1 l2).push { cls := .type "list_iterator", data := .fields #[.ref l3, .int 0 0] }
noncomputable abbrev z3d (h : Heap) (l1 l2 l3 : Addr) : Heap := (z3c h l1 l2 l3).push { cls := .type "tuple", data := .seq #[.ref h.objs.size, .ref (z3a h l1).objs.size, .ref (z3b h l1 l2).objs.size] }
noncomputable abbrev z3e (h : Heap) (l1 l2 l3 : Addr) : Heap := (z3d h l1 l2 l3).push { cls := .type "tuple", data := .seq #[.none, .none, .none] }
noncomputable abbrev z3f (h : Heap) (l1 l2 l3 : Addr) : Heap := (z3e h l1 l2 l3).push { cls := .type "zip", data := .fields #[.none, .bool false, .bool false, .ref (z3c h l1 l2 l3).objs.size, .ref (z3d h l1 l2 l3).objs.size] }
theorem meets_zip3 (l1 l2 l3 : Addr) (xs ys zs : Array Value) :
    Meets (Builtin.«zip.__new__» ⟨[.type "zip", .ref l1, .ref l2, .ref l3], []⟩) (fun _ R s => s.heap.IsList l1 xs ∧ s.heap.IsList l2 ys ∧ s.heap.IsList l3 zs ∧
      R (.ok (.ret (.ref (z3e s.heap l1 l2 l3).objs.size))) { s with heap := z3f s.heap l1 l2 l3 }) :=
  .of_wp fun prog w A R s h => by
    obtain ⟨hp, g, d, tk, os⟩ := s; obtain ⟨hl1, hl2, hl3, h⟩ := h
    have hsub := sub_zip
    have hL1 : Heap.IsList (Shared.heap ⟨hp, g, d, tk, os⟩) l1 xs := hl1
    have hL2 : Heap.IsList (Shared.heap ⟨z3a hp l1, g, d, tk, os⟩) l2 ys := Heap.IsList.push hl2 _
    have hL3 : Heap.IsList (Shared.heap ⟨z3b hp l1 l2, g, d, tk, os⟩) l3 zs := Heap.IsList.push (Heap.IsList.push hl3 _) _
    wp_walk using wpAny_pyIter_list hL1, wpAny_pyIter_list hL2, wpAny_pyIter_list hL3
    exact ⟨_, rfl, h⟩
section
variable {prog : Program} {w : World} {A : Around} {E : Value → Shared → Prop} {s : Shared}
theorem call_zip3 {l1 l2 l3 : Addr} {xs ys zs : Array Value} {Q : Value → Shared → Prop} (hl1 : s.heap.IsList l1 xs) (hl2 : s.heap.IsList l2 ys) (hl3 : s.heap.IsList l3 zs)
    (h : ∀ (h' : Heap) (n : Nat), n = s.heap.objs.size → IsZip h' (n + 5) (n + 3) (n + 4) .none → IsTri h' (n + 3) (.ref n) (.ref (n + 1)) (.ref (n + 2)) → IsTri h' (n + 4) .none .none .none → h'.IsListIter n l1 0 → h'.IsListIter (n + 1) l2 0 → h'.IsListIter (n + 2) l3 0 →
      (∀ c o, s.heap.get? c = some o → h'.get? c = some o) → Q (.ref (n + 5)) { s with heap := h' }) :
    wpAny (model prog w) A (call (.type "zip") [.ref l1, .ref l2, .ref l3]) Q E s := by
  refine callType_new F.called_zip (by decide) (typeCall_zip3 _ _ _) (newCall_zip3 _ _ _) (fun obj => args_init4 obj _ _ _) F.entry_zip_new (meets_zip3 l1 l2 l3 xs ys zs) ⟨hl1, hl2, hl3, ?_⟩
  have e1 : (z3a s.heap l1).objs.size = s.heap.objs.size + 1 := Heap.size_push ..
  have e2 : (z3b s.heap l1 l2).objs.size = s.heap.objs.size + 2 := by rw [Heap.size_push, e1]
  have e3 : (z3c s.heap l1 l2 l3).objs.size = s.heap.objs.size + 3 := by rw [Heap.size_push, e2]
  have e4 : (z3d s.heap l1 l2 l3).objs.size = s.heap.objs.size + 4 := by rw [Heap.size_push, e3]
  have e5 : (z3e s.heap l1 l2 l3).objs.size = s.heap.objs.size + 5 := by rw [Heap.size_push, e4]
  have pu : ∀ (h : Heap) (o : Obj) {c : Addr} {x : Obj}, h.get? c = some x → (h.push o).get? c = some x := fun h o c x e => Heap.get?_push_of_some _ e
  have f6 : (z3f s.heap l1 l2 l3).get? (z3e s.heap l1 l2 l3).objs.size = some _ := Heap.get?_push_size _ rfl
  have f5 : (z3f s.heap l1 l2 l3).get? (z3d s.heap l1 l2 l3).objs.size = some _ := pu _ _ (Heap.get?_push_size _ rfl)
  have f4 : (z3f s.heap l1 l2 l3).get? (z3c s.heap l1 l2 l3).objs.size = some _ := pu _ _ (pu _ _ (Heap.get?_push_size _ rfl))
  have f3 : (z3f s.heap l1 l2 l3).get? (z3b s.heap l1 l2).objs.size = some _ := pu _ _ (pu _ _ (pu _ _ (Heap.get?_push_size _ rfl)))
  have f2 : (z3f s.heap l1 l2 l3).get? (z3a s.heap l1).objs.size = some _ := pu _ _ (pu _ _ (pu _ _ (pu _ _ (Heap.get?_push_size _ rfl))))
  have f1 : (z3f s.heap l1 l2 l3).get? s.heap.objs.size = some _ := pu _ _ (pu _ _ (pu _ _ (pu _ _ (pu _ _ (Heap.get?_push_size _ rfl)))))
  show _ ∧ _
  rw [e5, e3, e4] at f6
  rw [e3, e1, e2] at f4
  rw [e4] at f5
  rw [e2] at f3
  rw [e1] at f2
  rw [e5]
  exact ⟨⟨_, f6, rfl⟩, h _ _ rfl f6 f4 f5 ⟨_, f1, rfl, rfl⟩ ⟨_, f2, rfl, rfl⟩ ⟨_, f3, rfl, rfl⟩ fun c o x => pu _ _ (pu _ _ (pu _ _ (pu _ _ (pu _ _ (pu _ _ x)))))⟩
end
noncomputable def Itz3 (K : PySem.W.Frag) (a b c : Addr) : It :=
  ⟨fun i H => ∃ xs ys zs, SqL K H a xs ∧ SqL K H b ys ∧ SqL K H c zs ∧ i < xs.length ∧ i < ys.length ∧ i < zs.length,
   fun i H x H' => ∃ T u v t, x = .ref T ∧ H T = none ∧ H' = upd H T (.tup [u, v, t]) ∧ (∀ xs, SqL K H a xs → xs[i]? = some u) ∧ (∀ ys, SqL K H b ys → ys[i]? = some v) ∧ ∀ zs, SqL K H c zs → zs[i]? = some t,
   fun i H => ∃ xs ys zs, SqL K H a xs ∧ SqL K H b ys ∧ SqL K H c zs ∧ (xs.length ≤ i ∨ ys.length ≤ i ∨ zs.length ≤ i)⟩
theorem vals_at {xs : List V} {its : List Value} (rv : Vals xs its) {i : Nat} (h : i < xs.length) : ∃ u x, xs[i]? = some u ∧ its.toArray[i]? = some x ∧ RelV u x := by
  have e1 : xs[i]? = some xs[i] := List.getElem?_eq_getElem h
  obtain ⟨x, e3, r1⟩ := rv.get e1
  exact ⟨_, x, e1, by simpa using e3, r1⟩
theorem turn_zip3 {P : Program} {w : World} {K : PySem.W.Frag} {elts : List Expr} {k : Nat} {pos : Pos} {n l1 l2 l3 : Nat} (L1 : l1 < n) (L2 : l2 < n) (L3 : l3 < n) :
    Turn P w K (.Tuple elts k pos) (Itz3 K l1 l2 l3) [n + 5, n + 3, n + 4, n, n + 1, n + 2] (n + 5) (fun i h => IsZip h (n + 5) (n + 3) (n + 4) .none ∧ IsTri h (n + 3) (.ref n) (.ref (n + 1)) (.ref (n + 2)) ∧ (∃ a b c, IsTri h (n + 4) a b c) ∧ h.IsListIter n l1 i ∧ h.IsListIter (n + 1) l2 i ∧ h.IsListIter (n + 2) l3 i) where
  mem := by simp
  obj := fun i h st b hb => by
    obtain ⟨hz, hTI, ⟨x, y, t, hTO⟩, ⟨o1, e1, _, d1⟩, ⟨o2, e2, _, d2⟩, ⟨o3, e3, _, d3⟩⟩ := st
    simp only [List.mem_cons, List.not_mem_nil, or_false] at hb
    rcases hb with rfl | rfl | rfl | rfl | rfl | rfl
    · exact ⟨_, hz, fun v q => by cases q⟩
    · exact ⟨_, hTI, fun v q => by cases q⟩
    · exact ⟨_, hTO, fun v q => by cases q⟩
    · exact ⟨o1, e1, fun v q => by rw [d1] at q; cases q⟩
    · exact ⟨o2, e2, fun v q => by rw [d2] at q; cases q⟩
    · exact ⟨o3, e3, fun v q => by rw [d3] at q; cases q⟩
  keep := fun i h h' st kp => by
    obtain ⟨hz, hTI, ⟨x, y, t, hTO⟩, h1, h2, h3⟩ := st
    exact ⟨kp _ (by simp) _ hz, kp _ (by simp) _ hTI, ⟨x, y, t, kp _ (by simp) _ hTO⟩, h1.at fun o e => kp _ (by simp) o e, h2.at fun o e => kp _ (by simp) o e, h3.at fun o e => kp _ (by simp) o e⟩
  item := by
    intro X hP hw hK hc i pins s σ H E I hf st hg
    subst hP hw hK
    obtain ⟨xs, ys, zs, q1, q2, q3, g1, g2, g3⟩ := hg
    obtain ⟨its1, rv1, p1, z1⟩ := I.list q1
    obtain ⟨its2, rv2, p2, z2⟩ := I.list q2
    obtain ⟨its3, rv3, p3, z3⟩ := I.list q3
    obtain ⟨hz, hTI, ⟨x0, y0, t0, hTO⟩, h1, h2, h3⟩ := st
    obtain ⟨u, x, e1, f1, r1⟩ := vals_at rv1 g1
    obtain ⟨v, y, e2, f2, r2⟩ := vals_at rv2 g2
    obtain ⟨t, c, e3, f3, r3⟩ := vals_at rv3 g3
    refine next_zip3_item L1 L2 L3 hz hTI hTO h1 h2 h3 p1.isList p2.isList p3.isList f1 f2 f3 fun h' hz' hTO' i1 i2 i3 hT kk => ?_
    refine ⟨_, rfl, wpAny_letOwnedTupleGo_zip hz' fun h3' hz3 hs3 => ?_⟩
    have fw : ∀ b ∈ [n, n + 1, n + 2, n + 4, n + 5], FpOk X pins H b := fun b hb => hf b (by
      simp only [List.mem_cons, List.not_mem_nil, or_false] at hb ⊢
      rcases hb with rfl | rfl | rfl | rfl | rfl <;> simp)
    have I1 : Inv X pins σ H { s with heap := h' } := inv_turnedAll (t' := s.toks) I kk fw
    have I2 : Inv X pins σ H { s with heap := h3' } := inv_turnedAll (s := { s with heap := h' }) (t' := s.toks) (ws := [n + 5]) I1 (fun b o hb e => hs3.extBut b o (by simpa using hb) e) fun b hb => hf b (by
      have : b = n + 5 := by simpa using hb
      simp [this])
    have szl : n + 5 < s.heap.objs.size := Heap.lt_size hz
    have hT3 : h3'.IsTuple s.heap.objs.size #[x, y, c] := ⟨_, hs3.extBut _ _ (by walk_at "o") hT, rfl, _, rfl⟩
    have fT : FpOk X pins H s.heap.objs.size := I.fpOk (Nat.le_refl _) (I.hok.fresh (Nat.le_refl _))
    have I3 := inv_tup (xs := [u, v, t]) (its := [x, y, c]) I2 fT I.sz hT3 (.cons r1 (.cons r2 (.cons r3 .nil))) (Nat.le_of_lt (small1000 (by show 3 ≤ 1000; decide)))
    refine ⟨.ref s.heap.objs.size, upd H s.heap.objs.size (.tup [u, v, t]), I3, rfl, ⟨_, u, v, t, rfl, fT.1, rfl, fun xs' h => by rw [I.list_inj h q1]; exact e1, fun ys' h => by rw [I.list_inj h q2]; exact e2, fun zs' h => by rw [I.list_inj h q3]; exact e3⟩, ⟨hz3, ?_, ⟨x, y, c, hs3.extBut _ _ (by walk_at "o") hTO'⟩, i1.at fun o e => hs3.extBut _ o (by walk_at "o") e, i2.at fun o e => hs3.extBut _ o (by walk_at "o") e, i3.at fun o e => hs3.extBut _ o (by walk_at "o") e⟩, fun b hb => ?_⟩
    · refine hs3.extBut _ _ (by walk_at "o") (kk _ _ ?_ hTI)
      simp only [List.mem_cons, List.not_mem_nil, or_false]
      omega
    · rw [upd_ne]
      · exact (hf b hb).1
      · simp only [List.mem_cons, List.not_mem_nil, or_false] at hb
        rcases hb with rfl | rfl | rfl | rfl | rfl | rfl <;> walk_at "o"
  done := by
    intro X hP hw hK hc i pins s σ H E I hf st hg
    subst hP hw hK
    obtain ⟨xs, ys, zs, q1, q2, q3, g⟩ := hg
    obtain ⟨its1, rv1, p1, z1⟩ := I.list q1
    obtain ⟨its2, rv2, p2, z2⟩ := I.list q2
    obtain ⟨its3, rv3, p3, z3⟩ := I.list q3
    obtain ⟨hz, hTI, ⟨x0, y0, t0, hTO⟩, h1, h2, h3⟩ := st
    have M1 := rv1.length
    have M2 := rv2.length
    have M3 := rv3.length
    refine next_zip3_end (I.ok.hd hc) L1 L2 L3 hz hTI hTO h1 h2 h3 p1.isList p2.isList p3.isList ?_ fun h' hk => ⟨rfl, ?_⟩
    · rcases g with g | g | g
      · exact .inl (by simp; omega)
      · exact .inr (.inl (by simp; omega))
      · exact .inr (.inr (by simp; omega))
    · exact inv_turnedAll (t' := s.toks) I hk fun b hb => hf b (by
        simp only [List.mem_cons, List.not_mem_nil, or_false] at hb ⊢
        rcases hb with rfl | rfl | rfl | rfl | rfl <;> simp)
  self := fun _ _ _ _ _ st h => wpAny_pyIter_zip st.1 h
section
variable {X : Cx} {K : PySem.W.Frag}
noncomputable def iZip3 (K : PySem.W.Frag) (t : TA) : TI := fun σ H R => t σ H fun vs H1 => ∃ a b c, vs = [.ref a, .ref b, .ref c] ∧ (∃ xs, SqL K H1 a xs) ∧ (∃ ys, SqL K H1 b ys) ∧ (∃ zs, SqL K H1 c zs) ∧ R (Itz3 K a b c) H1
theorem vals3 {x y z : V} {us : List Value} (h : Vals [x, y, z] us) : ∃ a b c, us = [a, b, c] ∧ RelV x a ∧ RelV y b ∧ RelV z c := by
  cases h with
  | cons r t =>
    obtain ⟨b, c, rfl, h1, h2⟩ := vals2 t
    exact ⟨_, b, c, rfl, r, h1, h2⟩
theorem pi_zip3 {elts : List Expr} {k : Nat} {tpos : Pos} {a b c : Expr} {ta : TA} {p pos : Pos} (hK : X.K = K) (hg : Gl X "zip") (hm : X.mg "zip" = none) (ha : PA X [a, b, c] ta) (hs : starEach [a, b, c] X.env = [(false, eval a X.env), (false, eval b X.env), (false, eval c X.env)] := by rfl) (hs2 : starEach [b, c] X.env = [(false, eval b X.env), (false, eval c X.env)] := by rfl) :
    PI X (.Tuple elts k tpos) (.Call (.Name "zip" p) [a, b, c] [] pos) (iZip3 K ta) := by
  subst hK
  intro pins s σ H R I h
  refine Call_ (ld_blt I hg hm boot_zip (PyProof.Rows.callWith_type1 (thn (ha pos pins s σ H _ I h) fun us s1 ⟨vs, H1, I1, r1, q1⟩ => ?_) (by rw [hs, hs2]) (by rw [hs2]; rfl)))
  obtain ⟨a', b', c', e, ⟨xs, g1⟩, ⟨ys, g2⟩, ⟨zs, g3⟩, q⟩ := q1
  subst e
  obtain ⟨u, v, t, rfl, ru, rv, rt⟩ := vals3 r1
  cases ru; cases rv; cases rt
  obtain ⟨its1, rv1, p1, z1⟩ := I1.list g1
  obtain ⟨its2, rv2, p2, z2⟩ := I1.list g2
  obtain ⟨its3, rv3, p3, z3⟩ := I1.list g3
  have a1 : a' < s1.heap.objs.size := by obtain ⟨_, e, _⟩ := p1.isList; exact Heap.lt_size e
  have a2 : b' < s1.heap.objs.size := by obtain ⟨_, e, _⟩ := p2.isList; exact Heap.lt_size e
  have a3 : c' < s1.heap.objs.size := by obtain ⟨_, e, _⟩ := p3.isList; exact Heap.lt_size e
  refine call_zip3 p1.isList p2.isList p3.isList fun h' n hn hz hTI hTO hi1 hi2 hi3 hk => wpAny_pyIter_zip hz ?_
  rw [← hn] at a1 a2 a3
  refine ⟨n + 5, [n + 5, n + 3, n + 4, n, n + 1, n + 2], _, _, H1, rfl, I1.kept (t' := s1.toks) hk, turn_zip3 a1 a2 a3, ⟨hz, hTI, ⟨_, _, _, hTO⟩, hi1, hi2, hi3⟩, fun b hb => ?_, q⟩
  have hb2 : s1.heap.objs.size ≤ b := by
    rw [← hn]
    simp only [List.mem_cons, List.not_mem_nil, or_false] at hb
    rcases hb with rfl | rfl | rfl | rfl | rfl | rfl <;> first | exact Nat.le_add_right _ _ | exact Nat.le_refl _
  exact I1.fpOk hb2 (I1.hok.fresh hb2)
end
section
variable {K : PySem.W.Frag} {H₀ : Hp} {E : XK} {ta tb tc : TE} {da db dc : DE} {dl dk dm : DL}
noncomputable def triD : List PyData → List PyData → List PyData → List PyData
  | x :: xs, y :: ys, z :: zs => .tuple [x, y, z] :: triD xs ys zs
  | _, _, _ => []
theorem triD_spec : ∀ (xs ys zs : List PyData) (i : Nat), (∀ d, (triD xs ys zs)[i]? = some d → ∃ x y z, xs[i]? = some x ∧ ys[i]? = some y ∧ zs[i]? = some z ∧ d = .tuple [x, y, z]) ∧ ((triD xs ys zs).length ≤ i → xs.length ≤ i ∨ ys.length ≤ i ∨ zs.length ≤ i)
  | [], ys, zs, i => ⟨fun d h => by simp [triD] at h, fun _ => .inl (Nat.zero_le _)⟩
  | x :: xs, [], zs, i => ⟨fun d h => by simp [triD] at h, fun _ => .inr (.inl (Nat.zero_le _))⟩
  | x :: xs, y :: ys, [], i => ⟨fun d h => by simp [triD] at h, fun _ => .inr (.inr (Nat.zero_le _))⟩
  | x :: xs, y :: ys, z :: zs, 0 => ⟨fun d h => ⟨x, y, z, rfl, rfl, rfl, by simpa [triD] using h.symm⟩, fun h => by simp [triD] at h⟩
  | x :: xs, y :: ys, z :: zs, i + 1 => by
    obtain ⟨h1, h2⟩ := triD_spec xs ys zs i
    refine ⟨fun d h => ?_, fun h => ?_⟩
    · obtain ⟨a, b, c, e1, e2, e3, e4⟩ := h1 d (by simpa [triD] using h)
      exact ⟨a, b, c, by simpa using e1, by simpa using e2, by simpa using e3, e4⟩
    · have := h2 (by simpa [triD] using h)
      simp only [List.length_cons]
      omega
noncomputable def dZip3 (dl dk dm : DL) (ex : DX) (δ : DEn) (Q : List PyData → Prop) : Prop := dl ex δ fun xs => dk ex δ fun ys => dm ex δ fun zs => Q (triD xs ys zs)
theorem itz3_ok {a b c : Addr} {vs ws us : List V} {xs ys zs : List PyData} {G H : Hp} (s : Sub G H) (h1 : SqL K H a vs) (h2 : SqL K H b ws) (h3 : SqL K H c us) (d1 : DVs K G vs xs) (d2 : DVs K G ws ys) (d3 : DVs K G us zs) (i : Nat) :
    (∀ d, (triD xs ys zs)[i]? = some d → (Itz3 K a b c).go i H ∧ ∀ x H2, (Itz3 K a b c).yld i H x H2 → ∃ G2, Ext G H G2 H2 ∧ DV K G2 x d) ∧ ((triD xs ys zs).length ≤ i → (Itz3 K a b c).stop i H) := by
  obtain ⟨s1, s2⟩ := triD_spec xs ys zs i
  refine ⟨fun d hi => ?_, fun hi => ⟨vs, ws, us, h1, h2, h3, ?_⟩⟩
  · obtain ⟨x, y, z, e1, e2, e3, rfl⟩ := s1 d hi
    obtain ⟨u, f1, f2⟩ := d1.at e1
    obtain ⟨v, g1, g2⟩ := d2.at e2
    obtain ⟨t, k1, k2⟩ := d3.at e3
    refine ⟨⟨vs, ws, us, h1, h2, h3, (List.getElem?_eq_some_iff.mp f1).1, (List.getElem?_eq_some_iff.mp g1).1, (List.getElem?_eq_some_iff.mp k1).1⟩, fun z' H2 ⟨T, u', v', t', e4, hT, e5, m1, m2, m3⟩ => ?_⟩
    subst e4 e5
    have q1 := m1 vs h1
    have q2 := m2 ws h2
    have q3 := m3 us h3
    rw [f1] at q1; rw [g1] at q2; rw [k1] at q3
    cases q1; cases q2; cases q3
    have e := ext_new (xs := [u, v, t]) s hT
    exact ⟨_, e, .tup (SqT.of upd_same) (.cons (dv_same e.g f2) (.cons (dv_same e.g g2) (.cons (dv_same e.g k2) .nil)))⟩
  · have := s2 hi
    have := d1.len
    have := d2.len
    have := d3.len
    omega
theorem is_zip3 (h1 : EvD K H₀ E ta da) (h2 : EvD K H₀ E tb db) (h3 : EvD K H₀ E tc dc) : IvS K H₀ E (iZip3 K (tCons ta (tCons tb (tCons tc tNil)))) (dZip3 (dAsL da) (dAsL db) (dAsL dc)) := fun ex δ σ G H Qd R hx S q k =>
  h1 ex δ σ G H _ _ hx S q fun v d G1 H1 e1 hd q1 => by
    cases d with
    | list xs =>
      refine h2 ex δ σ G1 H1 _ _ hx (S.ext e1) q1 fun v2 d2 G2 H2 e2 hd2 q2 => ?_
      cases d2 with
      | list ys =>
        refine h3 ex δ σ G2 H2 _ _ hx ((S.ext e1).ext e2) q2 fun v3 d3 G3 H3 e3 hd3 q3 => ?_
        cases d3 with
        | list zs =>
          obtain ⟨a, vs, rfl, a1, a2⟩ := dv_list hd
          obtain ⟨b, ws, rfl, b1, b2⟩ := dv_list hd2
          obtain ⟨c, us, rfl, c1, c2⟩ := dv_list hd3
          refine ⟨a, b, c, rfl, ⟨vs, e3.h.seq (e2.h.seq (e1.s.same.seq a1))⟩, ⟨ws, e3.h.seq (e2.s.same.seq b1)⟩, ⟨us, e3.s.same.seq c1⟩, k _ _ G3 H3 ((e1.trans e2).trans e3) (fun G' H' s1 s2 i => ?_) q3⟩
          exact itz3_ok s2 (s2.same.seq (s1.seq (e3.g.seq (e2.g.seq a1)))) (s2.same.seq (s1.seq (e3.g.seq b1))) (s2.same.seq (s1.seq c1)) (dvs_same s1 (dvs_same e3.g (dvs_same e2.g a2))) (dvs_same s1 (dvs_same e3.g b2)) (dvs_same s1 c2) i
        | _ => exact q3.elim
      | _ => exact q2.elim
    | _ => exact q1.elim
end
section
variable {K : PySem.W.Frag} {H₀ : Hp} {E : XK} {te ta tb : TE} {da db de : DE} {ts : TS} {ds : DS}
end
section
variable {K : PySem.W.Frag} {H₀ : Hp} {E : XK} {dl : DL} {tt : TT} {dt : DT} {ts : TS} {ds : DS} {g : TG} {dg : DG} {ns : List Nat}
end
noncomputable abbrev D2 := DX → DEn → (List PyData → List PyData → Prop) → Prop
noncomputable def O2D (K : PySem.W.Frag) (H₀ : Hp) (E : XK) (t : TA) (d : D2) : Prop := ∀ ex δ σ G H Qd Q, ExOk H₀ E ex → Sees K H₀ G δ σ H → d ex δ Qd →
  (∀ a b vs ws xs ys G' H', Ext G H G' H' → a ≠ b → H₀ a = none → H₀ b = none → G' a = none → G' b = none → H' a = some (.lst vs) → H' b = some (.lst ws) → DVs K G' vs xs → DVs K G' ws ys → Qd xs ys → Q [.ref a, .ref b] H') → t σ H Q
noncomputable def dOV (i : Nat) (_ex : DX) (δ : DEn) (Q : List PyData → Prop) : Prop := match slot δ i with
  | some (.own ds) => Q ds
  | _ => False
noncomputable def d2 (dl dk : DL) (ex : DX) (δ : DEn) (Q : List PyData → List PyData → Prop) : Prop := dl ex δ fun xs => dk ex δ fun ys => Q xs ys
section
variable {K : PySem.W.Frag} {H₀ : Hp} {E : XK} {ta tb : TE} {dl dk : DL} {t : TA}
theorem ov_of {δ : DEn} {i : Nat} {ex : DX} {Q : List PyData → Prop} (q : dOV i ex δ Q) : ∃ ds, slot δ i = some (.own ds) ∧ Q ds := by
  unfold dOV at q
  split at q
  · rename_i ds hs
    exact ⟨ds, hs, q⟩
  · exact q.elim
theorem o2_vn (i : Nat) (hb : OvD K H₀ E tb dk) : O2D K H₀ E (tCons (tVar i) (tCons tb tNil)) (d2 (dOV i) dk) := fun ex δ σ G H Qd Q hx S q k => by
  obtain ⟨xs, hs, q⟩ := ov_of q
  obtain ⟨a, vs, s1, g1, h1, v1⟩ := S.ownAt hs
  refine ⟨_, s1, hb ex δ σ G H _ _ hx S q fun b ws ys G2 H2 e2 n2 g2 h2 v2 q2 => ?_⟩
  exact k a b vs ws xs ys G2 H2 e2 (fun z => by subst z; rw [h1] at n2; cases n2) (S.old.free g1) (S.oldH.free n2) (e2.keep g1 h1) g2 (e2.h _ _ h1) h2 (dvs_same e2.g v1) v2 q2
noncomputable def dRet2 (d : D2) (e : DEnds) (δ : DEn) : Prop := d e.ex δ fun xs ys => e.rt (.two xs ys)
theorem sv_ret2 {d : D2} (h : O2D K H₀ E t d) : SvD K H₀ E (tRet (tTup t)) (dRet2 d) := fun δ σ G H e D hx S q L =>
  h e.ex δ σ G H _ _ hx S q fun a b vs ws xs ys G1 H1 e1 hab a0 b0 ga gb ha hb va vb q1 => by
    refine ⟨Nat.le_of_lt (small1000 (by simp)), fun p hp => ?_⟩
    have pa : a ≠ p := ne_of_none ha hp
    have pb : b ≠ p := ne_of_none hb hp
    have sm : Same G1 (rm (rm (upd H1 p (.tup [.ref a, .ref b])) a) b) := fun c o z => by
      have hc := e1.s.same c o z
      unfold rm
      rw [if_neg (ne_of_none z gb), if_neg (ne_of_none z ga), upd_ne (ne_of_none hc hp)]
      exact hc
    refine L.rt (.ref p) (.two xs ys) _ (((S.ext e1).oldH).trans fun c o z => by rw [upd_ne (ne_of_none z hp)]; exact z) ⟨p, a, b, vs, ws, rfl, SqT.of upd_same, hab, a0, b0, ?_, ?_, dvs_same sm va, dvs_same sm vb⟩ q1
    · rw [upd_ne pa]; exact ha
    · rw [upd_ne pb]; exact hb
end
section
variable {K : PySem.W.Frag} {H₀ : Hp} {E : XK}
end
section
variable {K : PySem.W.Frag} {H₀ : Hp} {E : XK} {tb : TE} {db : DE} {dl : DL} {t : TA} {g : TG} {dg : DG} {ns : List Nat}
end
end Dl
namespace Lx
open PySem PySem.Spec PyProof.Rows L2
structure LcOk1 (X : Cx) (scope : Scope) (x : Str) (cl : List (Str × Addr)) (cap : List (Option Nat)) (NC : List Str) : Prop where
  clos : closureFor scope X.env = pure cl
  kind : scope.kind = .function
  one : ∀ n, cellsFrom n scope.names cl = (x, n) :: cl
  push : ∀ h, pushCells h scope.names = h.push { cls := .type "cell", data := .cell none }
  fresh : cl.lookup x = none
  names : ∀ x ∈ scope.names, x.2 = .local → scope.names.lookup x.1 = some .local
  caps : CapsOk X scope cl cap NC
  cells : ∀ p ∈ cl, X.env.cells.lookup p.1 = some p.2
  has : ∀ c : Addr, ((relabel scope X.env).names.all fun p => (p.2 != .cell && p.2 != .free) || (((x, c) :: cl).lookup p.1).isSome) = true
section
variable {X : Cx} {elt target iter : Expr} {ifs : List Expr} {scope : Scope} {pos : Pos} {wi : TI} {cap : List (Option Nat)} {NC : List Str} {cl : List (Str × Addr)} {g : TG} {tt : TT} {te : TE} {x0 : Str}
end
end Lx
namespace Dl
open PySem PySem.Spec PyProof.Rows L2 Lx
section
variable {K : PySem.W.Frag} {H₀ : Hp} {E : XK} {te : TE} {de : DE} {dl : DL} {ta : TA}
end
section
variable {X : Cx}
end
section
variable {K : PySem.W.Frag} {H₀ : Hp} {E : XK} {te : TE} {de : DE} {dl : DL} {t : TA} {tt : TT} {dt : DT} {ts tz : TS} {ds dz : DS}
end
noncomputable abbrev IsZ (h : Heap) (z TI TO : Addr) (f0 f1 : Value) : Prop := h.get? z = some { cls := .type "zip", dict := none, data := .fields #[f0, f1, .bool false, .ref TI, .ref TO], slots := #[] }
section
variable {prog : Program} {w : World} {A : Around} {E : Value → Shared → Prop} {s : Shared}
structure ZSt (h : Heap) (z TI TO i1 i2 l1 l2 base : Addr) (i : Nat) (xs ys : Array Value) : Prop where
  z : IsZ h z TI TO .none (.bool false) ∨ ∃ (T : Addr) (b : Bool) (o : Obj), IsZ h z TI TO (rawInt (T : Int)) (.bool b) ∧ base ≤ T ∧ h.get? T = some o
  ti : IsPair h TI (.ref i1) (.ref i2)
  to : ∃ a b, IsPair h TO a b
  i1 : h.IsListIter i1 l1 i
  i2 : h.IsListIter i2 l2 i
  l1 : h.IsList l1 xs
  l2 : h.IsList l2 ys
end
section
variable {prog : Program} {w : World} {A : Around} {R : Result → Shared → Prop}
end
section
variable {prog : Program} {w : World} {A : Around} {s : Shared} {R : Result → Shared → Prop}
variable {z TI TO i1 i2 l1 l2 S base n : Nat} {xs ys : Array Value}
end
section
variable {prog : Program} {w : World} {A : Around} {E : Value → Shared → Prop} {s : Shared}
end
section
variable {X : Cx} {K : PySem.W.Frag}
end
section
variable {K : PySem.W.Frag} {H₀ : Hp} {E : XK} {ta tb : TE} {dl dk : DL}
end
section
variable {X : Cx} {K : PySem.W.Frag}
end
section
variable {X : Cx} {K : PySem.W.Frag}
end
section
variable {K : PySem.W.Frag} {H₀ : Hp} {E : XK} {te ta tb : TE} {da de : DE} {dl dk : DL}
end
noncomputable def datW (w : DW) : DW := fun ds Q X => w ds (fun s => match s with
  | .two xs ys => Q (.dat (.tuple [.list xs, .list ys]))
  | s => Q s) X
theorem rm_same {H : Hp} {a : Addr} : Same (rm H a) H := fun b o z => by
  unfold rm at z
  split at z
  · cases z
  · exact z
theorem dat2 {P : Program} {w : World} {K : PySem.W.Frag} {mg : Str → Option Value} {base : Heap} {CX : CXT} {k : Nat} {f : Addr} {fd : FuncData} {ps : List Str} {W : DW} (F : FnOk P w K mg base CX k f fd ps (spW K W)) : FnOk P w K mg base CX k f fd ps (spW K (datW W)) :=
  F.imp fun vs H Q E h => by
    obtain ⟨ds, Qd, Ed, h1, h2, h3, h4⟩ := h
    refine ⟨ds, _, Ed, h1, h2, fun v s H' sm r q => ?_, h4⟩
    cases s with
    | two xs ys =>
      obtain ⟨t, a, b, us, ws, rfl, ht, hab, ha, hb, la, lb, d1, d2⟩ := r
      have s1 : Same (rm (rm H' a) b) H' := rm_same.trans rm_same
      exact h3 _ (.dat (.tuple [.list xs, .list ys])) H' sm (.tup ht (.cons (.lst (SqL.of la) (dvs_same s1 d1)) (.cons (.lst (SqL.of lb) (dvs_same s1 d2)) .nil))) q
    | dat d => exact h3 v (.dat d) H' sm r q
    | own ds => exact h3 v (.own ds) H' sm r q
    | exc C => exact h3 v (.exc C) H' sm r q
    | fz as d => exact r.elim
section
variable {K : PySem.W.Frag} {H₀ : Hp} {E : XK} {dl : DL} {t : TA} {g : TG} {dg : DG} {ns : List Nat}
noncomputable def dAsgNT0 (w : DW) (dl : DL) (m : Nat) (dg : DG) (e : DEnds) (δ : DEn) : Prop := dl e.ex δ fun ds => noOwn δ = true ∧ w ds (anyS fun d => match d with
  | .tuple xs => (match nth xs m with
    | some d => dg d δ e.nx
    | none => False)
  | _ => False) fun _ => False
theorem sv_asgNT0 {w : DW} (m : Nat) (ha : AvD K H₀ E t dl) (hg : GvD K H₀ g ns dg) : SvD K H₀ E (tAsg (tOp (rIxT K) (tCall (spW K w) [] E0 t) (tC (.int (m : Int)))) g) (dAsgNT0 w dl m dg) := fun δ σ G H e D hx S q L =>
  ha e.ex δ σ G H _ _ hx S q fun vs ds G1 H1 e1 h1 ⟨no, q1⟩ => by
    refine ⟨ds, _, fun _ => False, by rw [List.append_nil]; exact h1, q1, fun v s H2 sm r qs => ?_, fun C H2 sm hc => hc.elim⟩
    obtain ⟨d, hd, q2⟩ := ret_any r qs
    have S2 := (S.ext e1).all2 no sm
    cases d with
    | tuple xs =>
      dsimp only at q2
      split at q2
      · rename_i d' z
        obtain ⟨a, us, rfl, hs, hv⟩ := dv_tuple hd
        obtain ⟨u, z1, z2⟩ := dvs_atI hv (atI_nat (nth_at z))
        refine ⟨a, us, _, u, rfl, rfl, hs, z1, ?_⟩
        exact hg u d' δ σ H2 H2 _ _ S2 z2 q2 fun δ' σ' S' _ q' => L.nx δ' σ' H2 H2 (e1.g.trans ((S.ext e1).sub.same.trans sm)) S' q'
      · exact q2.elim
    | _ => exact q2.elim
end
section
variable {X : Cx} {K : PySem.W.Frag}
end
section
variable {K : PySem.W.Frag} {H₀ : Hp} {E : XK} {te ta tb : TE} {da db : DE} {dl : DL}
end
section
variable {prog : Program} {w : World} {A : Around} {E : Value → Shared → Prop} {s : Shared}
end
section
variable {prog : Program} {w : World} {A : Around} {E : Value → Shared → Prop} {s : Shared}
end
section
variable {X : Cx} {K : PySem.W.Frag}
end
section
variable {K : PySem.W.Frag} {H₀ : Hp} {E : XK} {ta tb : TE} {da db : DE}
end
section
variable {K : PySem.W.Frag} {H₀ : Hp} {E : XK} {te : TE} {de : DE} {dl : DL} {t : TA} {ts tz : TS} {ds : DS} {w : DW}
end
section
variable {K : PySem.W.Frag} {H₀ : Hp} {E : XK} {ta tb : TE} {da db : DE}
end
section
variable {K : PySem.W.Frag} {H₀ : Hp} {E : XK} {ta tb tc : TE} {da db dc : DE} {f g : Int → Int → Bool}
end
theorem back_range (n : Nat) : sliceRange ((n : Int) - 1) (-1) (-1) = (List.range n).map fun k => n - 1 - k := by
  unfold sliceRange
  rw [if_neg (by decide)]
  by_cases h : n = 0
  · subst h; rfl
  · have e : (((n : Int) - 1 - -1 - -1 - 1) / (- -1)) = (n : Int) := by
      rw [show (- -1 : Int) = 1 by decide, Int.ediv_one]; omega
    simp only [show (n : Int) - 1 > -1 by omega, if_true, e, Int.toNat_natCast]
    refine List.map_congr_left fun k hk => ?_
    have := List.mem_range.mp hk
    omega
theorem back_pick (its : List Value) : slicePick its.toArray none none (some (-1)) = its.reverse.toArray := by
  have e : sliceBounds none none (some (-1)) its.toArray.size = ((its.length : Int) - 1, -1, -1) := by simp [sliceBounds]
  unfold slicePick
  rw [e]
  dsimp only
  rw [back_range]
  congr 1
  have h : ∀ k, k ∈ List.range its.length → its.toArray[its.length - 1 - k]? = its.reverse[k]? := fun k hk => by
    have := List.mem_range.mp hk
    rw [List.getElem?_toArray, List.getElem?_reverse (by omega)]
  rw [List.filterMap_map]
  have h2 : ((List.range its.length).filterMap fun k => its.reverse[k]?) = its.reverse := by
    have g : ∀ (xs : List Value), (List.range xs.length).filterMap (fun k => xs[k]?) = xs := fun xs => by
      induction xs with
      | nil => rfl
      | cons x xs ih =>
        rw [List.length_cons, List.range_succ_eq_map, List.filterMap_cons]
        simp only [List.getElem?_cons_zero, List.filterMap_map]
        congr 1
    have := g its.reverse
    rwa [List.length_reverse] at this
  rw [← h2]
  have g : ∀ ks : List Nat, (∀ k ∈ ks, its.toArray[its.length - 1 - k]? = its.reverse[k]?) → ks.filterMap ((fun x => its.toArray[x]?) ∘ fun k => its.length - 1 - k) = ks.filterMap fun k => its.reverse[k]? := fun ks => by
    induction ks with
    | nil => intro _; rfl
    | cons k ks ih =>
      intro hk
      rw [List.filterMap_cons, List.filterMap_cons, ih fun k h => hk k (List.mem_cons_of_mem _ h)]
      have := hk k List.mem_cons_self
      dsimp only [Function.comp]
      rw [this]
  rw [h2]
  exact (g _ h).trans h2
section
variable {X : Cx} {e es : Expr} {te : TE} {ts : TO} {pos p2 : Pos}
noncomputable def rBack (K : PySem.W.Frag) : V → Hp → VK → Prop := fun x H Q => ∃ a xs, x = .ref a ∧ SqL K H a xs ∧ ∀ p, H p = none → Q (.ref p) (upd H p (.lst xs.reverse))
noncomputable def tBack (K : PySem.W.Frag) (te : TE) (ts : TO) : TE := fun σ H Q => te σ H fun x H1 => ts σ H1 fun i H2 => i = some (-1) ∧ rBack K x H2 Q
theorem pe_back {K : PySem.W.Frag} (hK : X.K = K) (he : PE X e te) (hs : PO X (some es) ts) : PE X (.Subscript e (.Slice none none (some es) p2) pos) (tBack K te ts) := by
  subst hK
  intro pins s σ H Q I h
  refine Subscript_ (thn (he pins s σ H _ I h) fun v s1 ⟨x, H1, I1, r1, q1⟩ => ?_)
  refine wpAny_Slice ?_
  rw [evalPart_none]
  refine wpAny_pure (wpAny_pure (thn (hs pins s1 σ H1 _ I1 q1) fun vs s3 ⟨i, H3, I3, pi, q3⟩ => ?_))
  obtain ⟨rfl, a, xs, rfl, hx, q⟩ := q3
  cases r1
  have I4 : Inv X pins σ H3 { s3 with heap := s3.heap.push { cls := .type "slice", data := .fields #[.none, .none, vs] } } := I3.kept (t' := s3.toks) fun b ob q => Heap.get?_push_of_some _ q
  obtain ⟨its, r, ht, hz⟩ := I4.list hx
  have hlen := r.length
  refine tail_any (ops := [.ref a, .ref s3.heap.objs.size]) ht.isList.typeIs slot_list_getitem.lookup ?_ (by with_unfolding_all rfl)
  refine wpAny_getItem_list_slice ht.isList (Heap.IsSliceOf.new ..) .none .none pi (by simp) ?_ (by rw [List.size_toArray] <;> omega)
  rw [back_pick]
  refine ⟨.ref _, _, I4.laid (t' := s3.toks) (o := .lst xs.reverse) (fun b ob q => Heap.get?_push_of_some _ q) (Nat.le_refl _) ?_, rfl, q _ (I4.hok.fresh (Nat.le_refl _))⟩
  exact ⟨by rw [List.length_reverse]; exact hz, _, 0, r.reverse, Heap.get?_push_size _ rfl⟩
end
section
variable {K : PySem.W.Frag} {H₀ : Hp} {E : XK} {te : TE} {dl : DL} {t1 : TO} {d1 : DO}
noncomputable def dBack (dl : DL) (d1 : DO) (ex : DX) (δ : DEn) (Q : List PyData → Prop) : Prop := dl ex δ fun ds => d1 ex δ fun i => i = some (-1) ∧ Q ds.reverse
theorem ov_back (ha : LvD K H₀ E te dl) (h1 : OvP K H₀ E t1 d1) : OvD K H₀ E (tBack K te t1) (dBack dl d1) := fun ex δ σ G H Qd Q hx S q k =>
  ha ex δ σ G H _ _ hx S q fun a vs ds G1 H1 e1 g1 g2 q1 => h1 ex δ σ G1 H1 _ _ hx (S.ext e1) q1 fun i G2 H2 e2 q2 =>
    ⟨q2.1, a, vs, rfl, e2.h.seq g1, fun p hp => by
      obtain ⟨e4, hg⟩ := ext_newL (xs := vs.reverse) e2.s hp
      have e0 := e1.trans e2
      exact k p _ _ _ _ (e0.trans e4) (e0.h.free hp) hg upd_same (dvs_same e2.g g2).rev q2.2⟩
end
section
variable {K : PySem.W.Frag} {H₀ : Hp} {E : XK}
noncomputable def dMv (i j : Nat) (e : DEnds) (δ : DEn) : Prop := match slot δ j with
  | some (.own xs) => e.nx (put (some (.own xs)) i (put none j δ))
  | _ => False
theorem sv_mv (i j : Nat) (hij : i ≠ j) : SvD K H₀ E (tAsg (tVar j) (gName i)) (dMv i j) := fun δ σ G H e D hx S q L => by
  unfold dMv at q
  split at q
  · rename_i xs hs
    obtain ⟨v, h1, h2⟩ := S.has j _ hs
    refine ⟨v, h1, L.nx _ _ G H (Same.refl _) ?_ q⟩
    have sl : ∀ k s, slot (put (some (.own xs)) i (put none j δ)) k = some s → (k = i ∧ s = .own xs ∧ i < δ.length) ∨ (k ≠ i ∧ k ≠ j ∧ slot δ k = some s) := fun k s h => by
      rw [slot_put, put_len] at h
      by_cases c : k = i ∧ i < δ.length
      · rw [if_pos c] at h
        exact .inl ⟨c.1, (Option.some.inj h).symm, c.2⟩
      · rw [if_neg c, slot_put] at h
        by_cases d : k = j ∧ j < δ.length
        · rw [if_pos d] at h; cases h
        · rw [if_neg d] at h
          have lt := slot_lt h
          refine .inr ⟨fun z => c ⟨z, by rw [← z]; exact lt⟩, fun z => d ⟨z, by rw [← z]; exact lt⟩, h⟩
    refine ⟨S.old, S.sub, by rw [put_len, put_len, List.length_set]; exact S.len, fun k s h => ?_, fun k1 k2 ys zs a e1 e2 g1 g2 => ?_⟩
    · rcases sl k s h with ⟨rfl, rfl, lt⟩ | ⟨n1, n2, h⟩
      · exact ⟨v, by rw [List.getElem?_set_self (Nat.lt_of_lt_of_le lt S.len)], h2⟩
      · obtain ⟨u, u1, u2⟩ := S.has k s h
        exact ⟨u, by rw [List.getElem?_set_ne (fun z => n1 z.symm)]; exact u1, u2⟩
    · rcases sl k1 _ e1 with ⟨r1, s1, lt⟩ | ⟨n1, n2, f1⟩ <;> rcases sl k2 _ e2 with ⟨r2, s2, lt'⟩ | ⟨m1, m2, f2⟩
      · rw [r1, r2]
      · rw [r1, List.getElem?_set_self (Nat.lt_of_lt_of_le lt S.len)] at g1
        rw [List.getElem?_set_ne (fun z => m1 z.symm)] at g2
        have e : v = .ref a := Option.some.inj (Option.some.inj g1)
        exact absurd (S.sep j k2 xs zs a hs f2 (by rw [h1, e]) g2) (fun z => m2 z.symm)
      · rw [r2, List.getElem?_set_self (Nat.lt_of_lt_of_le lt' S.len)] at g2
        rw [List.getElem?_set_ne (fun z => n1 z.symm)] at g1
        have e : v = .ref a := Option.some.inj (Option.some.inj g2)
        exact absurd (S.sep j k1 xs ys a hs f1 (by rw [h1, e]) g1) (fun z => n2 z.symm)
      · rw [List.getElem?_set_ne (fun z => n1 z.symm)] at g1
        rw [List.getElem?_set_ne (fun z => m1 z.symm)] at g2
        exact S.sep k1 k2 ys zs a f1 f2 g1 g2
  · exact q.elim
end
section
variable {K : PySem.W.Frag} {H₀ : Hp} {E : XK} {te : TE} {de : DE} {dl : DL} {t : TA} {ts tz : TS} {ds : DS} {w : DW}
end
section
variable {K : PySem.W.Frag} {H₀ : Hp} {E : XK} {te ta tb : TE} {de da db : DE} {t1 t2 : TO} {d1 d2 : DO}
end
section
variable {K : PySem.W.Frag} {H₀ : Hp} {E : XK} {tb : TE} {db : DE} {dl : DL} {t : TA} {g : TG} {dg : DG} {ns : List Nat}
noncomputable def dAsgNTI0 (w : DW) (dl : DL) (m : Nat) (db : DE) (dg : DG) (e : DEnds) (δ : DEn) : Prop := dl e.ex δ fun ds => noOwn δ = true ∧ w ds (anyS fun d => match d with
  | .tuple xs => (match nth xs m with
    | some (.list ys) => db e.ex δ fun y => (match y with
      | .int i => ∃ d, atI ys i = some d ∧ dg d δ e.nx
      | _ => False)
    | _ => False)
  | _ => False) fun _ => False
theorem sv_asgNTI0 {w : DW} (m : Nat) (ha : AvD K H₀ E t dl) (hb : BvD K H₀ E tb db) (hg : GvD K H₀ g ns dg) : SvD K H₀ E (tAsg (tOp (rIxL K) (tOp (rIxT K) (tCall (spW K w) [] E0 t) (tC (.int (m : Int)))) tb) g) (dAsgNTI0 w dl m db dg) := fun δ σ G H e D hx S q L =>
  ha e.ex δ σ G H _ _ hx S q fun vs ds G1 H1 e1 h1 ⟨no, q1⟩ => by
    refine ⟨ds, _, fun _ => False, by rw [List.append_nil]; exact h1, q1, fun v s H2 sm r qs => ?_, fun C H2 sm hc => hc.elim⟩
    obtain ⟨d, hd, q2⟩ := ret_any r qs
    have S2 := (S.ext e1).all2 no sm
    cases d with
    | tuple xs =>
      dsimp only at q2
      split at q2
      · rename_i ys z
        obtain ⟨a, us, rfl, hs, hv⟩ := dv_tuple hd
        obtain ⟨u, z1, z2⟩ := dvs_atI hv (atI_nat (nth_at z))
        obtain ⟨b, ws, rfl, hs2, hv2⟩ := dv_list z2
        refine ⟨a, us, _, _, rfl, rfl, hs, z1, ?_⟩
        refine hb e.ex δ σ H2 H2 _ _ hx S2 q2 fun y dy G3 H3 e3 hy q3 => ?_
        cases dy with
        | int i =>
          obtain ⟨d', z', q4⟩ := q3
          cases dv_int hy
          obtain ⟨v', y1, y2⟩ := dvs_atI hv2 z'
          refine ⟨b, ws, i, v', rfl, rfl, e3.h.seq hs2, y1, ?_⟩
          exact hg v' d' δ σ G3 H3 _ _ (S2.ext e3) (dv_same e3.g y2) q4 fun δ' σ' S' _ q' => L.nx δ' σ' G3 H3 ((e1.g.trans ((S.ext e1).sub.same.trans sm)).trans e3.g) S' q'
        | _ => exact q3.elim
      · exact q2.elim
    | _ => exact q2.elim
end
theorem se_bin {l op r pos es env} : starEach (.BinOp l op r pos :: es) env = (false, eval (.BinOp l op r pos) env) :: starEach es env := rfl
end Dl
namespace My
open PySem PySem.Spec PyProof.Rows L2 Lx Dl
noncomputable def top (i : Nat) : Stmt := PySem.Challenge.pw_leastmiss_k43_whole_nothing_misses_less.main.body.getD i (.Pass ⟨0, 0, 0, 0⟩)
noncomputable abbrev s_common_divisor : Stmt := top 6
theorem sc_common_divisor : FnScope ["one", "other", "rest"] ["one", "other"] (defScope s_common_divisor) := ⟨rfl, rfl, rfl, by decide +kernel, rfl, by decide +kernel, by decide +kernel⟩
noncomputable abbrev s_fraction : Stmt := top 7
theorem sc_fraction : FnScope ["top", "bottom", "divisor"] ["top", "bottom"] (defScope s_fraction) := ⟨rfl, rfl, rfl, by decide +kernel, rfl, by decide +kernel, by decide +kernel⟩
noncomputable abbrev s_plus : Stmt := top 8
theorem sc_plus : FnScope ["one", "other", "shared", "rest", "top", "divisor"] ["one", "other"] (defScope s_plus) := ⟨rfl, rfl, rfl, by decide +kernel, rfl, by decide +kernel, by decide +kernel⟩
noncomputable abbrev s_minus : Stmt := top 9
theorem sc_minus : FnScope ["one", "other"] ["one", "other"] (defScope s_minus) := ⟨rfl, rfl, rfl, by decide +kernel, rfl, by decide +kernel, by decide +kernel⟩
noncomputable abbrev s_product : Stmt := top 10
theorem sc_product : FnScope ["one", "other", "left", "right"] ["one", "other"] (defScope s_product) := ⟨rfl, rfl, rfl, by decide +kernel, rfl, by decide +kernel, by decide +kernel⟩
noncomputable abbrev s_quotient : Stmt := top 11
theorem sc_quotient : FnScope ["one", "other"] ["one", "other"] (defScope s_quotient) := ⟨rfl, rfl, rfl, by decide +kernel, rfl, by decide +kernel, by decide +kernel⟩
noncomputable abbrev s_is_less : Stmt := top 12
theorem sc_is_less : FnScope ["one", "other"] ["one", "other"] (defScope s_is_less) := ⟨rfl, rfl, rfl, by decide +kernel, rfl, by decide +kernel, by decide +kernel⟩
noncomputable abbrev s_size_of : Stmt := top 13
theorem sc_size_of : FnScope ["one"] ["one"] (defScope s_size_of) := ⟨rfl, rfl, rfl, by decide +kernel, rfl, by decide +kernel, by decide +kernel⟩
noncomputable abbrev s_total_of : Stmt := top 14
theorem sc_total_of : FnScope ["some", "total", "one"] ["some"] (defScope s_total_of) := ⟨rfl, rfl, rfl, by decide +kernel, rfl, by decide +kernel, by decide +kernel⟩
noncomputable abbrev s_greatest_of : Stmt := top 15
theorem sc_greatest_of : FnScope ["some", "greatest", "one"] ["some"] (defScope s_greatest_of) := ⟨rfl, rfl, rfl, by decide +kernel, rfl, by decide +kernel, by decide +kernel⟩
noncomputable abbrev s_least_of : Stmt := top 16
theorem sc_least_of : FnScope ["some", "least", "one"] ["some"] (defScope s_least_of) := ⟨rfl, rfl, rfl, by decide +kernel, rfl, by decide +kernel, by decide +kernel⟩
noncomputable abbrev s_height_at : Stmt := top 18
theorem sc_height_at : FnScope ["numbers", "x", "height", "number"] ["numbers", "x"] (defScope s_height_at) := ⟨rfl, rfl, rfl, by decide +kernel, rfl, by decide +kernel, by decide +kernel⟩
noncomputable abbrev s_row_of : Stmt := top 19
theorem sc_row_of : FnScope ["numbers", "marks"] ["numbers", "marks"] (defScope s_row_of) := ⟨rfl, rfl, rfl, by decide +kernel, rfl, by decide +kernel, by decide +kernel⟩
noncomputable abbrev s_misses_of : Stmt := top 21
theorem sc_misses_of : FnScope ["marks", "row"] ["marks", "row"] (defScope s_misses_of) := ⟨rfl, rfl, rfl, by decide +kernel, rfl, by decide +kernel, by decide +kernel⟩
noncomputable abbrev s_check_kind : Stmt := top 24
theorem sc_check_kind : FnScope ["kind"] ["kind"] (defScope s_check_kind) := ⟨rfl, rfl, rfl, by decide +kernel, rfl, by decide +kernel, by decide +kernel⟩
noncomputable abbrev s_weighed_misses : Stmt := top 25
theorem sc_weighed_misses : FnScope ["marks", "row"] ["marks", "row"] (defScope s_weighed_misses) := ⟨rfl, rfl, rfl, by decide +kernel, rfl, by decide +kernel, by decide +kernel⟩
noncomputable abbrev s_measured : Stmt := top 26
theorem sc_measured : FnScope ["kind", "marks", "row", "misses", "weighed"] ["kind", "marks", "row"] (defScope s_measured) := ⟨rfl, rfl, rfl, by decide +kernel, rfl, by decide +kernel, by decide +kernel⟩
noncomputable abbrev s_least_level : Stmt := top 28
theorem sc_least_level : FnScope ["kind", "marks", "heights", "weights", "weighed"] ["kind", "marks"] (defScope s_least_level) := ⟨rfl, rfl, rfl, by decide +kernel, rfl, by decide +kernel, by decide +kernel⟩
noncomputable abbrev s_middle_of : Stmt := top 29
theorem sc_middle_of : FnScope ["some", "weights", "pairs", "whole", "spot", "reached"] ["some", "weights"] (defScope s_middle_of) := ⟨rfl, rfl, rfl, by decide +kernel, rfl, by decide +kernel, by decide +kernel⟩
noncomputable abbrev s_in_order : Stmt := top 30
theorem sc_in_order : FnScope ["some", "weights", "pairs", "one", "weight", "spot"] ["some", "weights"] (defScope s_in_order) := ⟨rfl, rfl, rfl, by decide +kernel, rfl, by decide +kernel, by decide +kernel⟩
noncomputable abbrev s_level_sum : Stmt := top 31
theorem sc_level_sum : FnScope ["marks", "numbers", "misses"] ["marks"] (defScope s_level_sum) := ⟨rfl, rfl, rfl, by decide +kernel, rfl, by decide +kernel, by decide +kernel⟩
noncomputable abbrev s_line_sum : Stmt := top 32
theorem sc_line_sum : FnScope ["marks", "best", "least", "mark", "line", "measure"] ["marks"] (defScope s_line_sum) := ⟨rfl, rfl, rfl, by decide +kernel, rfl, by decide +kernel, by decide +kernel⟩
noncomputable abbrev s_line_at : Stmt := top 33
theorem sc_line_at : FnScope ["marks", "mark", "others", "ways", "slopes", "weights", "slope"] ["marks", "mark"] (defScope s_line_at) := ⟨rfl, rfl, rfl, by decide +kernel, rfl, by decide +kernel, by decide +kernel⟩
noncomputable abbrev s_line_pulls : Stmt := top 34
theorem sc_line_pulls : FnScope ["marks", "line", "misses", "early", "late", "least", "greatest", "part"] ["marks", "line"] (defScope s_line_pulls) := ⟨rfl, rfl, rfl, by decide +kernel, rfl, by decide +kernel, by decide +kernel⟩
noncomputable abbrev s_turn_of : Stmt := top 35
theorem sc_turn_of : FnScope ["marks", "pulls"] ["marks", "pulls"] (defScope s_turn_of) := ⟨rfl, rfl, rfl, by decide +kernel, rfl, by decide +kernel, by decide +kernel⟩
noncomputable abbrev s_early_pulls : Stmt := top 36
theorem sc_early_pulls : FnScope ["marks", "misses", "fixed", "left", "pulls", "mark", "miss", "pull", "raised"] ["marks", "misses"] (defScope s_early_pulls) := ⟨rfl, rfl, rfl, by decide +kernel, rfl, by decide +kernel, by decide +kernel⟩
noncomputable abbrev s_law_cell : Stmt := top 38
theorem sc_law_cell : FnScope ["script", "k"] ["script", "k"] (defScope s_law_cell) := ⟨rfl, rfl, rfl, by decide +kernel, rfl, by decide +kernel, by decide +kernel⟩
noncomputable abbrev s_law_divisor : Stmt := top 39
theorem sc_law_divisor : FnScope ["one", "other"] ["one", "other"] (defScope s_law_divisor) := ⟨rfl, rfl, rfl, by decide +kernel, rfl, by decide +kernel, by decide +kernel⟩
noncomputable abbrev s_law_low : Stmt := top 40
theorem sc_law_low : FnScope ["top", "bottom", "many"] ["top", "bottom"] (defScope s_law_low) := ⟨rfl, rfl, rfl, by decide +kernel, rfl, by decide +kernel, by decide +kernel⟩
noncomputable abbrev s_law_plus : Stmt := top 41
theorem sc_law_plus : FnScope ["one", "other"] ["one", "other"] (defScope s_law_plus) := ⟨rfl, rfl, rfl, by decide +kernel, rfl, by decide +kernel, by decide +kernel⟩
noncomputable abbrev s_law_times : Stmt := top 42
theorem sc_law_times : FnScope ["one", "other"] ["one", "other"] (defScope s_law_times) := ⟨rfl, rfl, rfl, by decide +kernel, rfl, by decide +kernel, by decide +kernel⟩
noncomputable abbrev s_law_height : Stmt := top 43
theorem sc_law_height : FnScope ["cell", "shape", "place", "lean", "height"] ["cell", "shape", "place", "lean"] (defScope s_law_height) := ⟨rfl, rfl, rfl, by decide +kernel, rfl, by decide +kernel, by decide +kernel⟩
noncomputable abbrev s_law_marks : Stmt := top 44
theorem sc_law_marks : FnScope ["script", "most", "shape", "lean", "bottom", "at", "marks", "k", "place", "weight"] ["script", "most"] (defScope s_law_marks) := ⟨rfl, rfl, rfl, by decide +kernel, rfl, by decide +kernel, by decide +kernel⟩
noncomputable abbrev s_law_sum : Stmt := top 45
theorem sc_law_sum : FnScope ["marks", "numbers", "top", "bottom", "a", "b", "place", "height", "weight", "low", "laid", "miss"] ["marks", "numbers"] (defScope s_law_sum) := ⟨rfl, rfl, rfl, by decide +kernel, rfl, by decide +kernel, by decide +kernel⟩
noncomputable abbrev s_law_less : Stmt := top 46
theorem sc_law_less : FnScope ["one", "other"] ["one", "other"] (defScope s_law_less) := ⟨rfl, rfl, rfl, by decide +kernel, rfl, by decide +kernel, by decide +kernel⟩
noncomputable abbrev s_law_number : Stmt := top 47
theorem sc_law_number : FnScope ["cell"] ["cell"] (defScope s_law_number) := ⟨rfl, rfl, rfl, by decide +kernel, rfl, by decide +kernel, by decide +kernel⟩
noncomputable abbrev s_law_through : Stmt := top 48
theorem sc_law_through : FnScope ["one", "other", "rise", "wide", "slope", "drop"] ["one", "other"] (defScope s_law_through) := ⟨rfl, rfl, rfl, by decide +kernel, rfl, by decide +kernel, by decide +kernel⟩
noncomputable abbrev s_law_other : Stmt := top 49
theorem sc_law_other : FnScope ["cell", "k", "marks", "numbers", "drawn", "share", "j"] ["cell", "k", "marks", "numbers"] (defScope s_law_other) := ⟨rfl, rfl, rfl, by decide +kernel, rfl, by decide +kernel, by decide +kernel⟩
noncomputable abbrev s_law : Stmt := top 50
theorem sc_law : FnScope ["script", "marks", "numbers", "level", "least_line", "least_level_v", "k", "other"] ["script"] (defScope s_law) := ⟨rfl, rfl, rfl, by decide +kernel, rfl, by decide +kernel, by decide +kernel⟩
set_option genInjectivity false in
structure Adr where
  a_common_divisor : Addr
  d_common_divisor : FuncData
  a_fraction : Addr
  d_fraction : FuncData
  a_plus : Addr
  d_plus : FuncData
  a_minus : Addr
  d_minus : FuncData
  a_product : Addr
  d_product : FuncData
  a_quotient : Addr
  d_quotient : FuncData
  a_is_less : Addr
  d_is_less : FuncData
  a_size_of : Addr
  d_size_of : FuncData
  a_total_of : Addr
  d_total_of : FuncData
  a_greatest_of : Addr
  d_greatest_of : FuncData
  a_least_of : Addr
  d_least_of : FuncData
  a_height_at : Addr
  d_height_at : FuncData
  a_row_of : Addr
  d_row_of : FuncData
  a_misses_of : Addr
  d_misses_of : FuncData
  a_check_kind : Addr
  d_check_kind : FuncData
  a_weighed_misses : Addr
  d_weighed_misses : FuncData
  a_measured : Addr
  d_measured : FuncData
  a_least_level : Addr
  d_least_level : FuncData
  a_middle_of : Addr
  d_middle_of : FuncData
  a_in_order : Addr
  d_in_order : FuncData
  a_level_sum : Addr
  d_level_sum : FuncData
  a_line_sum : Addr
  d_line_sum : FuncData
  a_line_at : Addr
  d_line_at : FuncData
  a_line_pulls : Addr
  d_line_pulls : FuncData
  a_turn_of : Addr
  d_turn_of : FuncData
  a_early_pulls : Addr
  d_early_pulls : FuncData
  a_law_cell : Addr
  d_law_cell : FuncData
  a_law_divisor : Addr
  d_law_divisor : FuncData
  a_law_low : Addr
  d_law_low : FuncData
  a_law_plus : Addr
  d_law_plus : FuncData
  a_law_times : Addr
  d_law_times : FuncData
  a_law_height : Addr
  d_law_height : FuncData
  a_law_marks : Addr
  d_law_marks : FuncData
  a_law_sum : Addr
  d_law_sum : FuncData
  a_law_less : Addr
  d_law_less : FuncData
  a_law_number : Addr
  d_law_number : FuncData
  a_law_through : Addr
  d_law_through : FuncData
  a_law_other : Addr
  d_law_other : FuncData
  a_law : Addr
  d_law : FuncData
  x_NoNumber : Addr
  x_NoKind : Addr
  g_KINDS : Addr
  g_NOUGHT : Addr
set_option genInjectivity false in
structure Txt (K : PySem.W.Frag) (mg : Str → Option Value) (A : Adr) : Prop where
  F_common_divisor : Fun K "common_divisor" "common_divisor" s_common_divisor A.a_common_divisor A.d_common_divisor
  m_common_divisor : mg "common_divisor" = some (.ref A.a_common_divisor)
  b_common_divisor : Binds K A.d_common_divisor ["one", "other"] []
  F_fraction : Fun K "fraction" "fraction" s_fraction A.a_fraction A.d_fraction
  m_fraction : mg "fraction" = some (.ref A.a_fraction)
  b_fraction : Binds K A.d_fraction ["top", "bottom"] []
  F_plus : Fun K "plus" "plus" s_plus A.a_plus A.d_plus
  m_plus : mg "plus" = some (.ref A.a_plus)
  b_plus : Binds K A.d_plus ["one", "other"] []
  F_minus : Fun K "minus" "minus" s_minus A.a_minus A.d_minus
  m_minus : mg "minus" = some (.ref A.a_minus)
  b_minus : Binds K A.d_minus ["one", "other"] []
  F_product : Fun K "product" "product" s_product A.a_product A.d_product
  m_product : mg "product" = some (.ref A.a_product)
  b_product : Binds K A.d_product ["one", "other"] []
  F_quotient : Fun K "quotient" "quotient" s_quotient A.a_quotient A.d_quotient
  m_quotient : mg "quotient" = some (.ref A.a_quotient)
  b_quotient : Binds K A.d_quotient ["one", "other"] []
  F_is_less : Fun K "is_less" "is_less" s_is_less A.a_is_less A.d_is_less
  m_is_less : mg "is_less" = some (.ref A.a_is_less)
  b_is_less : Binds K A.d_is_less ["one", "other"] []
  F_size_of : Fun K "size_of" "size_of" s_size_of A.a_size_of A.d_size_of
  m_size_of : mg "size_of" = some (.ref A.a_size_of)
  b_size_of : Binds K A.d_size_of ["one"] []
  F_total_of : Fun K "total_of" "total_of" s_total_of A.a_total_of A.d_total_of
  m_total_of : mg "total_of" = some (.ref A.a_total_of)
  b_total_of : Binds K A.d_total_of ["some"] []
  F_greatest_of : Fun K "greatest_of" "greatest_of" s_greatest_of A.a_greatest_of A.d_greatest_of
  m_greatest_of : mg "greatest_of" = some (.ref A.a_greatest_of)
  b_greatest_of : Binds K A.d_greatest_of ["some"] []
  F_least_of : Fun K "least_of" "least_of" s_least_of A.a_least_of A.d_least_of
  m_least_of : mg "least_of" = some (.ref A.a_least_of)
  b_least_of : Binds K A.d_least_of ["some"] []
  F_height_at : Fun K "height_at" "height_at" s_height_at A.a_height_at A.d_height_at
  m_height_at : mg "height_at" = some (.ref A.a_height_at)
  b_height_at : Binds K A.d_height_at ["numbers", "x"] []
  F_row_of : Fun K "row_of" "row_of" s_row_of A.a_row_of A.d_row_of
  m_row_of : mg "row_of" = some (.ref A.a_row_of)
  b_row_of : Binds K A.d_row_of ["numbers", "marks"] []
  F_misses_of : Fun K "misses_of" "misses_of" s_misses_of A.a_misses_of A.d_misses_of
  m_misses_of : mg "misses_of" = some (.ref A.a_misses_of)
  b_misses_of : Binds K A.d_misses_of ["marks", "row"] []
  F_check_kind : Fun K "check_kind" "check_kind" s_check_kind A.a_check_kind A.d_check_kind
  m_check_kind : mg "check_kind" = some (.ref A.a_check_kind)
  b_check_kind : Binds K A.d_check_kind ["kind"] []
  F_weighed_misses : Fun K "weighed_misses" "weighed_misses" s_weighed_misses A.a_weighed_misses A.d_weighed_misses
  m_weighed_misses : mg "weighed_misses" = some (.ref A.a_weighed_misses)
  b_weighed_misses : Binds K A.d_weighed_misses ["marks", "row"] []
  F_measured : Fun K "measured" "measured" s_measured A.a_measured A.d_measured
  m_measured : mg "measured" = some (.ref A.a_measured)
  b_measured : Binds K A.d_measured ["kind", "marks", "row"] []
  F_least_level : Fun K "least_level" "least_level" s_least_level A.a_least_level A.d_least_level
  m_least_level : mg "least_level" = some (.ref A.a_least_level)
  b_least_level : Binds K A.d_least_level ["kind", "marks"] []
  F_middle_of : Fun K "middle_of" "middle_of" s_middle_of A.a_middle_of A.d_middle_of
  m_middle_of : mg "middle_of" = some (.ref A.a_middle_of)
  b_middle_of : Binds K A.d_middle_of ["some", "weights"] []
  F_in_order : Fun K "in_order" "in_order" s_in_order A.a_in_order A.d_in_order
  m_in_order : mg "in_order" = some (.ref A.a_in_order)
  b_in_order : Binds K A.d_in_order ["some", "weights"] []
  F_level_sum : Fun K "level_sum" "level_sum" s_level_sum A.a_level_sum A.d_level_sum
  m_level_sum : mg "level_sum" = some (.ref A.a_level_sum)
  b_level_sum : Binds K A.d_level_sum ["marks"] []
  F_line_sum : Fun K "line_sum" "line_sum" s_line_sum A.a_line_sum A.d_line_sum
  m_line_sum : mg "line_sum" = some (.ref A.a_line_sum)
  b_line_sum : Binds K A.d_line_sum ["marks"] []
  F_line_at : Fun K "line_at" "line_at" s_line_at A.a_line_at A.d_line_at
  m_line_at : mg "line_at" = some (.ref A.a_line_at)
  b_line_at : Binds K A.d_line_at ["marks", "mark"] []
  F_line_pulls : Fun K "line_pulls" "line_pulls" s_line_pulls A.a_line_pulls A.d_line_pulls
  m_line_pulls : mg "line_pulls" = some (.ref A.a_line_pulls)
  b_line_pulls : Binds K A.d_line_pulls ["marks", "line"] []
  F_turn_of : Fun K "turn_of" "turn_of" s_turn_of A.a_turn_of A.d_turn_of
  m_turn_of : mg "turn_of" = some (.ref A.a_turn_of)
  b_turn_of : Binds K A.d_turn_of ["marks", "pulls"] []
  F_early_pulls : Fun K "early_pulls" "early_pulls" s_early_pulls A.a_early_pulls A.d_early_pulls
  m_early_pulls : mg "early_pulls" = some (.ref A.a_early_pulls)
  b_early_pulls : Binds K A.d_early_pulls ["marks", "misses"] []
  F_law_cell : Fun K "_law_cell" "_law_cell" s_law_cell A.a_law_cell A.d_law_cell
  m_law_cell : mg "_law_cell" = some (.ref A.a_law_cell)
  b_law_cell : Binds K A.d_law_cell ["script", "k"] []
  F_law_divisor : Fun K "_law_divisor" "_law_divisor" s_law_divisor A.a_law_divisor A.d_law_divisor
  m_law_divisor : mg "_law_divisor" = some (.ref A.a_law_divisor)
  b_law_divisor : Binds K A.d_law_divisor ["one", "other"] []
  F_law_low : Fun K "_law_low" "_law_low" s_law_low A.a_law_low A.d_law_low
  m_law_low : mg "_law_low" = some (.ref A.a_law_low)
  b_law_low : Binds K A.d_law_low ["top", "bottom"] []
  F_law_plus : Fun K "_law_plus" "_law_plus" s_law_plus A.a_law_plus A.d_law_plus
  m_law_plus : mg "_law_plus" = some (.ref A.a_law_plus)
  b_law_plus : Binds K A.d_law_plus ["one", "other"] []
  F_law_times : Fun K "_law_times" "_law_times" s_law_times A.a_law_times A.d_law_times
  m_law_times : mg "_law_times" = some (.ref A.a_law_times)
  b_law_times : Binds K A.d_law_times ["one", "other"] []
  F_law_height : Fun K "_law_height" "_law_height" s_law_height A.a_law_height A.d_law_height
  m_law_height : mg "_law_height" = some (.ref A.a_law_height)
  b_law_height : Binds K A.d_law_height ["cell", "shape", "place", "lean"] []
  F_law_marks : Fun K "_law_marks" "_law_marks" s_law_marks A.a_law_marks A.d_law_marks
  m_law_marks : mg "_law_marks" = some (.ref A.a_law_marks)
  b_law_marks : Binds K A.d_law_marks ["script", "most"] []
  F_law_sum : Fun K "_law_sum" "_law_sum" s_law_sum A.a_law_sum A.d_law_sum
  m_law_sum : mg "_law_sum" = some (.ref A.a_law_sum)
  b_law_sum : Binds K A.d_law_sum ["marks", "numbers"] []
  F_law_less : Fun K "_law_less" "_law_less" s_law_less A.a_law_less A.d_law_less
  m_law_less : mg "_law_less" = some (.ref A.a_law_less)
  b_law_less : Binds K A.d_law_less ["one", "other"] []
  F_law_number : Fun K "_law_number" "_law_number" s_law_number A.a_law_number A.d_law_number
  m_law_number : mg "_law_number" = some (.ref A.a_law_number)
  b_law_number : Binds K A.d_law_number ["cell"] []
  F_law_through : Fun K "_law_through" "_law_through" s_law_through A.a_law_through A.d_law_through
  m_law_through : mg "_law_through" = some (.ref A.a_law_through)
  b_law_through : Binds K A.d_law_through ["one", "other"] []
  F_law_other : Fun K "_law_other" "_law_other" s_law_other A.a_law_other A.d_law_other
  m_law_other : mg "_law_other" = some (.ref A.a_law_other)
  b_law_other : Binds K A.d_law_other ["cell", "k", "marks", "numbers"] []
  F_law : Fun K "law" "law" s_law A.a_law A.d_law
  m_law : mg "law" = some (.ref A.a_law)
  b_law : Binds K A.d_law ["script"] []
  x_NoNumber : ExcCl K mg "NoNumber" A.x_NoNumber
  x_NoKind : ExcCl K mg "NoKind" A.x_NoKind
  n_abs : mg "abs" = none
  n_height : mg "height" = none
  n_isinstance : mg "isinstance" = none
  n_len : mg "len" = none
  n_list : mg "list" = none
  n_mark : mg "mark" = none
  n_max : mg "max" = none
  n_min : mg "min" = none
  n_miss : mg "miss" = none
  n_one : mg "one" = none
  n_other : mg "other" = none
  n_pair : mg "pair" = none
  n_pull : mg "pull" = none
  n_range : mg "range" = none
  n_reversed : mg "reversed" = none
  n_str : mg "str" = none
  n_sum : mg "sum" = none
  n_way : mg "way" = none
  n_weight : mg "weight" = none
  n_zip : mg "zip" = none
  c_KINDS : mg "KINDS" = some (.ref A.g_KINDS)
  k_KINDS : ∀ H : Hp, DV K H (.ref A.g_KINDS) (.tuple [(.str "far"), (.str "sum"), (.str "square")])
  c_NOUGHT : mg "NOUGHT" = some (.ref A.g_NOUGHT)
  k_NOUGHT : ∀ H : Hp, DV K H (.ref A.g_NOUGHT) (.tuple [(.int 0), (.int 1)])
noncomputable abbrev bt_abs := PyProof.Rows.boot_abs
noncomputable abbrev bt_isinstance := PyProof.Rows.boot_isinstance
noncomputable abbrev bt_list := PyProof.Rows.boot_list
noncomputable abbrev bt_min := PyProof.Rows.boot_min
noncomputable abbrev bt_max := PyProof.Rows.boot_max
theorem bt_sum : bootBuiltins "sum" = some (.builtin "sum") := by decide +kernel
local macro_rules | `(tactic| walk_at "d") => `(tactic| (try simp only [startN, slot, put, dVar, dBVar, dLVar, dC, dFz, dAsL, dNil, dCons, dTup, dLst, dOp, oI, oI0, oB0, oEq, oNe, dNeg, dIxK, nth, dMap, dCb, bAbs, bMin, bMax, bSum, bLen, dListOf, dNoP, dPart, dSl, dBack, dMv, dAsgNTI0, dAsB, dAnd, dOr, dNot, dIfE, dCall, dCall0, dCallO0, dNext, dRet, dRetO, dRetV, dDrop, dIfS, gvName, gvNil, gvCons, gvTup, dAsg, dSetO, noOwn, frzAt, dFrz, dPar, dRaise, dApp, dRng1, dRng2, capD, dYes, dIsi, isD, tyD, dIxL, dZip, dRev, dIns, gvLst, dOV, d2, dRet2, datW, dAsgNT0, dZip3, dNoS, flatS, ownS, anyS, flatD, flatDs, Bool.and_true, Bool.true_and, Bool.and_self, Bool.not_true, Bool.not_false, true_and, and_true, decide_eq_true_eq, Bool.not_eq_true', decide_eq_false_iff_not, if_true, if_false, ite_true, ite_false, Bool.false_eq_true, Bool.true_eq_false, not_true_eq_false, not_false_eq_true, reduceCtorEq, List.length_cons, List.length_nil, List.length_map]))
local macro_rules | `(tactic| walk_at "s") => `(tactic| (walk_at "d"; refine seq_mk ?_; walk_at "d"))
theorem bt_str : bootBuiltins "str" = some (.type "str") := by decide +kernel
noncomputable abbrev fr (q : Rat) : PyData := .tuple [.int q.num, .int (q.den : Int)]
theorem wee_nat {g : Nat} {b : Int} (h : g ≤ b.natAbs) (hb : Wee b) : Wee (g : Int) := by
  unfold Wee at *
  omega
theorem wee_neg {b : Int} (hb : Wee b) : Wee (-b) := by
  unfold Wee at *
  omega
theorem cpow {i j : Int} (h : decide (0 ≤ j ∧ j ≤ 1000000 ∧ i.natAbs < 2 ^ 64) = true) : CPow i j := (of_decide_eq_true h : 0 ≤ j ∧ j ≤ 1000000 ∧ i.natAbs < 2 ^ 64)
theorem wee {i : Int} (h : decide (i.natAbs < 2 ^ 8000) = true) : Wee i := (of_decide_eq_true h : i.natAbs < 2 ^ 8000)
theorem weeLe {i : Int} {n : Nat} (h : i.natAbs ≤ n) (hn : decide (n < 2 ^ 8000) = true) : Wee i := Nat.lt_of_le_of_lt h (of_decide_eq_true hn)
theorem cdiv {i j : Int} (h : decide (0 < j ∧ j.natAbs < 2 ^ 8000) = true) : CDivB i j := (of_decide_eq_true h : 0 < j ∧ j.natAbs < 2 ^ 8000)
structure Ok (q : Rat) : Prop where
  n : Wee q.num
  d : Wee (q.den : Int)
theorem wee_natle {g b : Nat} (h : g ≤ b) (hb : Wee (b : Int)) : Wee (g : Int) := by
  unfold Wee at *
  omega
theorem okS {q : Rat} {N : Nat} (h : Fm.Sz N q) (hN : decide (N < 2 ^ 8000) = true) : Ok q := ⟨weeLe h.n hN, weeLe (n := N) (by have := h.d; omega) hN⟩
theorem fr_flat (q : Rat) : flatD (fr q) = true := rfl
theorem frs_flat : ∀ qs : List Rat, flatDs (qs.map fr) = true
  | [] => rfl
  | q :: qs => by
    have := frs_flat qs
    simp only [List.map_cons, flatDs, fr_flat, this, Bool.and_self]
section
variable {P : Program} {w : World} {K : PySem.W.Frag} {mg : Str → Option Value} {base : Heap} {A : Adr}
noncomputable def wGcd : DW := fun ds Q _ => ∃ a b : Int, ds = [.int a, .int b] ∧ 0 ≤ a ∧ 0 ≤ b ∧ Q (.dat (.int ((Int.gcd a b : Nat) : Int)))
theorem ok_common_divisor (T : Txt K mg A) : FnOk P w K mg base (CXE P w) 1 A.a_common_divisor A.d_common_divisor ["one", "other"] (spW K wGcd) := by
  refine okW T.F_common_divisor sc_common_divisor (fun ds Q E h => ?_) (fun cdv Ar outer s H E hr => ?_)
  · obtain ⟨a, b, rfl, _⟩ := h; rfl
  refine ⟨_, (pss_cons (ps_while PassesOwn.leaving (pt_cmpR op_ne (pv 1) pe_int (nomark _)) (pss_cons (ps_set (i := 2) sc_common_divisor.nd rfl (Or.inl rfl) (pe_op op_mod (pv 0) (pv 1)))
      (pss_cons (ps_set (i := 0) sc_common_divisor.nd rfl (Or.inl rfl) (pv 1))
      (pss_one (ps_set (i := 1) sc_common_divisor.nd rfl (Or.inl rfl) (pv 2))))))
      (pss_one (ps_ret (pv 0)))), _, (sv_seq (sv_while (tv_test (bv_ev (ev_op ro_ne (bv_var 1) (bv_ev ev_int)))) (sv_seq (sv_asg (ev_op ro_i (bv_var 0) (bv_var 1)) (gv_name 2))
      (sv_seq (sv_asg (ev_var 1) (gv_name 0))
      (sv_asg (ev_var 2) (gv_name 1)))))
      (sv_retV 0)), ?_⟩
  rintro ds Q X ⟨a, b, rfl, ha, hb, k⟩
  walk_at "s"
  refine ⟨fun m δ => ∃ x y r, δ = [some (.dat (.int x)), some (.dat (.int y)), r] ∧ m = y.toNat ∧ 0 ≤ x ∧ 0 ≤ y ∧ Int.gcd x y = Int.gcd a b, ⟨_, a, b, none, rfl, rfl, ha, hb, rfl⟩, ?_⟩
  rintro m δ ⟨x, y, r, rfl, rfl, hx, hy, hg⟩
  walk_at "d"
  refine ite2 (fun c => ?_) (fun c => ?_)
  · have hy0 : y ≠ 0 := c
    have hp : 0 < y := by omega
    walk_at "s"
    refine ⟨hp, ?_⟩
    walk_at "s"
    walk_at "d"
    refine ⟨_, ?_, y, x % y, _, rfl, rfl, hy, Int.emod_nonneg _ hy0, ?_⟩
    · have := Int.emod_lt_of_pos x hp
      have := Int.emod_nonneg x hy0
      omega
    · rw [Fm.gcd_step x y hp, hg]
  · have hy0 : y = 0 := Decidable.not_not.mp c
    subst hy0
    rw [← hg, Fm.gcd_zero hx] at k
    exact k
noncomputable def wFraction (C : Addr) : DW := fun ds Q X => ∃ t b : Int, ds = [.int t, .int b] ∧ Wee b ∧ (b = 0 → X C) ∧ (b ≠ 0 → Q (.dat (fr (Rat.divInt t b))))
theorem ok_fraction (T : Txt K mg A) : FnOk P w K mg base (CXE P w) 2 A.a_fraction A.d_fraction ["top", "bottom"] (spW K (wFraction A.x_NoNumber)) := by
  have G_common_divisor := ok_common_divisor (P := P) (w := w) (base := base) T
  refine okW T.F_fraction sc_fraction (fun ds Q E h => ?_) (fun cdv Ar outer s H E hr => ?_)
  · obtain ⟨a, b, rfl, _⟩ := h; rfl
  refine ⟨_, (pss_cons (ps_if (pt_cmpR op_eq (pv 1) pe_int (nomark _)) (pss_one (ps_raise T.x_NoNumber hr.hd pass_own rfl (pa_cons pe_str pa_nil))) pss_nil)
      (pss_cons (ps_set (i := 2) sc_fraction.nd rfl (Or.inl rfl) (pe_call G_common_divisor (hr.mono (by decide)) rfl T.m_common_divisor T.F_common_divisor.kp T.b_common_divisor .nil passE0 (pa_cons (pe_callB call_abs rfl T.n_abs bt_abs (pa_cons (pv 0) pa_nil)) (pa_cons (pe_callB call_abs rfl T.n_abs bt_abs (pa_cons (pv 1) pa_nil)) pa_nil))))
      (pss_cons (ps_if (pt_cmpR op_lt (pv 1) pe_int (nomark _)) (pss_one (ps_set (i := 2) sc_fraction.nd rfl (Or.inl rfl) (pe_un un_neg (pv 2)))) pss_nil)
      (pss_one (ps_ret (pe_tup (pa_cons (pe_op op_fdivW (pv 0) (pv 2)) (pa_cons (pe_op op_fdivW (pv 1) (pv 2)) pa_nil)))))))), _, (sv_seq (sv_if (tv_test (bv_ev (ev_op ro_eq (bv_var 1) (bv_ev ev_int)))) (sv_raise (ae_cons ev_str ae_nil) (by decide)) sv_next)
      (sv_seq (sv_asg (ev_call0 (av_cons (bv_ev (ev_cb rb_abs (av_cons (bv_var 0) av_nil))) (av_cons (bv_ev (ev_cb rb_abs (av_cons (bv_var 1) av_nil))) av_nil))) (gv_name 2))
      (sv_cut (sv_if (tv_test (bv_ev (ev_op ro_b0 (bv_var 1) (bv_ev ev_int)))) (sv_asg (ev_neg (bv_var 2)) (gv_name 2)) sv_next)
      (sv_ret (bv_ev (ev_tup (ae_cons (ev_op ro_i (bv_var 0) (bv_var 2)) (ae_cons (ev_op ro_i (bv_var 1) (bv_var 2)) ae_nil)) (by decide))))))), ?_⟩
  rintro ds Q X ⟨t, b, rfl, hw, k0, k1⟩
  walk_at "s"
  refine ite2 (fun c => ?_) (fun c => ?_)
  · exact k0 c
  have hb : b ≠ 0 := c
  have kq := k1 hb
  walk_at "s"
  refine ⟨_, _, rfl, by rw [Fm.abs_if]; omega, by rw [Fm.abs_if]; omega, ?_⟩
  have eg : Int.gcd (if t < 0 then -t else t) (if b < 0 then -b else b) = Int.gcd t b := by
    rw [Fm.abs_if, Fm.abs_if]
    simp [Int.gcd]
  rw [eg]
  walk_at "d"
  refine ?_
  have h1 := Fm.gcd_pos_right (a := t) hb
  have h2 := wee_nat (Fm.gcd_le_right (a := t) hb) hw
  refine cut_mk (fun δ => δ = [some (.dat (.int t)), some (.dat (.int b)), some (.dat (.int (if b < 0 then -((Int.gcd t b : Nat) : Int) else ((Int.gcd t b : Nat) : Int))))]) ?_ ?_
  · walk_at "d"
    refine ite2 (fun c2 => ?_) (fun c2 => ?_)
    · rw [if_pos c2]
    · rw [if_neg c2]
  · rintro δ rfl
    walk_at "d"
    have hg : (if b < 0 then -((Int.gcd t b : Nat) : Int) else ((Int.gcd t b : Nat) : Int)) ≠ 0 := by split <;> omega
    have hg2 : Wee (if b < 0 then -((Int.gcd t b : Nat) : Int) else ((Int.gcd t b : Nat) : Int)) := by
      split
      · exact wee_neg h2
      · exact h2
    refine ⟨⟨hg, hg2⟩, ⟨hg, hg2⟩, ?_⟩
    rw [Fm.fr_num hb, Fm.fr_den hb]
    exact kq
end
noncomputable def wTwo (f : Rat → Rat → Rat) : DW := fun ds Q _ => ∃ a b : Rat, ds = [fr a, fr b] ∧ Ok a ∧ Ok b ∧ Q (.dat (fr (f a b)))
section
variable {P : Program} {w : World} {K : PySem.W.Frag} {mg : Str → Option Value} {base : Heap} {A : Adr}
theorem ok_plus (T : Txt K mg A) : FnOk P w K mg base (CXE P w) 2 A.a_plus A.d_plus ["one", "other"] (spW K (wTwo (· + ·))) := by
  have G_common_divisor := ok_common_divisor (P := P) (w := w) (base := base) T
  refine okW T.F_plus sc_plus (fun ds Q E h => ?_) (fun cdv Ar outer s H E hr => ?_)
  · obtain ⟨a, b, rfl, _⟩ := h; rfl
  refine ⟨_, (pss_cons (ps_set (i := 2) sc_plus.nd rfl (Or.inl rfl) (pe_call G_common_divisor (hr.mono (by decide)) rfl T.m_common_divisor T.F_common_divisor.kp T.b_common_divisor .nil passE0 (pa_cons (pe_ix (ixtK (K := K) rfl) (pv 0) pe_int (fun _ _ => rfl)) (pa_cons (pe_ix (ixtK (K := K) rfl) (pv 1) pe_int (fun _ _ => rfl)) pa_nil))))
      (pss_cons (ps_set (i := 3) sc_plus.nd rfl (Or.inl rfl) (pe_op op_fdivB (pe_ix (ixtK (K := K) rfl) (pv 0) pe_int (fun _ _ => rfl)) (pv 2)))
      (pss_cons (ps_set (i := 4) sc_plus.nd rfl (Or.inl rfl) (pe_op op_add (pe_op op_mulB (pe_ix (ixtK (K := K) rfl) (pv 0) pe_int (fun _ _ => rfl)) (pe_op op_fdivB (pe_ix (ixtK (K := K) rfl) (pv 1) pe_int (fun _ _ => rfl)) (pv 2))) (pe_op op_mulB (pe_ix (ixtK (K := K) rfl) (pv 1) pe_int (fun _ _ => rfl)) (pv 3))))
      (pss_cons (ps_set (i := 5) sc_plus.nd rfl (Or.inl rfl) (pe_call G_common_divisor (hr.mono (by decide)) rfl T.m_common_divisor T.F_common_divisor.kp T.b_common_divisor .nil passE0 (pa_cons (pv 2) (pa_cons (pe_callB call_abs rfl T.n_abs bt_abs (pa_cons (pv 4) pa_nil)) pa_nil))))
      (pss_one (ps_ret (pe_tup (pa_cons (pe_op op_fdivB (pv 4) (pv 5)) (pa_cons (pe_op op_mulB (pv 3) (pe_op op_fdivB (pe_ix (ixtK (K := K) rfl) (pv 1) pe_int (fun _ _ => rfl)) (pv 5))) pa_nil))))))))), _, (sv_seq (sv_asg (ev_call0 (av_cons (bv_ev (ev_ixk 1 (ev_var 0))) (av_cons (bv_ev (ev_ixk 1 (ev_var 1))) av_nil))) (gv_name 2))
      (sv_seq (sv_asg (ev_op ro_i (bv_ev (ev_ixk 1 (ev_var 0))) (bv_var 2)) (gv_name 3))
      (sv_seq (sv_asg (ev_op ro_i0 (bv_ev (ev_op ro_i (bv_ev (ev_ixk 0 (ev_var 0))) (bv_ev (ev_op ro_i (bv_ev (ev_ixk 1 (ev_var 1))) (bv_var 2))))) (bv_ev (ev_op ro_i (bv_ev (ev_ixk 0 (ev_var 1))) (bv_var 3)))) (gv_name 4))
      (sv_seq (sv_asg (ev_call0 (av_cons (bv_var 2) (av_cons (bv_ev (ev_cb rb_abs (av_cons (bv_var 4) av_nil))) av_nil))) (gv_name 5))
      (sv_ret (bv_ev (ev_tup (ae_cons (ev_op ro_i (bv_var 4) (bv_var 5)) (ae_cons (ev_op ro_i (bv_var 3) (bv_ev (ev_op ro_i (bv_ev (ev_ixk 1 (ev_var 1))) (bv_var 5)))) ae_nil)) (by decide)))))))), ?_⟩
  rintro ds Q X ⟨a, b, rfl, oa, ob, k⟩
  have s0 : 0 < a.den.gcd b.den := Nat.gcd_pos_of_pos_left _ (Nat.pos_of_ne_zero a.den_nz)
  have sw : Wee ((a.den.gcd b.den : Nat) : Int) := wee_natle (Nat.le_of_dvd (Nat.pos_of_ne_zero a.den_nz) (Nat.gcd_dvd_left _ _)) oa.d
  walk_at "s"
  refine ⟨_, _, rfl, by omega, by omega, ?_⟩
  rw [Int.gcd_natCast_natCast]
  generalize hs : a.den.gcd b.den = sh at s0 sw ⊢
  walk_at "d"
  refine ?_
  walk_at "s"
  refine ⟨⟨by omega, sw⟩, ?_⟩
  rw [← Int.natCast_ediv]
  walk_at "s"
  refine ⟨⟨by omega, sw⟩, ?_⟩
  rw [← Int.natCast_ediv]
  refine ⟨mulOk oa.n (wee_natle (Nat.div_le_self _ _) ob.d), mulOk ob.n (wee_natle (Nat.div_le_self _ _) oa.d), ?_⟩
  generalize ht : a.num * ((b.den / sh : Nat) : Int) + b.num * ((a.den / sh : Nat) : Int) = tp
  walk_at "s"
  refine ⟨_, _, rfl, by omega, by rw [Fm.abs_if]; omega, ?_⟩
  rw [Fm.abs_if, Int.gcd_natCast_natCast]
  generalize hg : sh.gcd tp.natAbs = g
  have g0 : 0 < g := by rw [← hg]; exact Nat.gcd_pos_of_pos_left _ s0
  have gw : Wee (g : Int) := wee_natle (by rw [← hg]; exact Nat.le_of_dvd s0 (Nat.gcd_dvd_left _ _)) sw
  walk_at "d"
  refine ?_
  obtain ⟨e1, e2⟩ := Fm.add_parts a b sh hs.symm tp ht.symm g hg.symm
  walk_at "d"
  refine ⟨⟨by omega, gw⟩, ⟨by omega, gw⟩, mulOk (wee_natle (Nat.div_le_self _ _) oa.d) (by rw [← Int.natCast_ediv]; exact wee_natle (Nat.div_le_self _ _) ob.d), ?_⟩
  rw [← Int.natCast_ediv, ← Int.natCast_mul, ← e1, ← e2]
  exact k
theorem ok_minus (T : Txt K mg A) : FnOk P w K mg base (CXE P w) 3 A.a_minus A.d_minus ["one", "other"] (spW K (wTwo (· - ·))) := by
  have G_plus := ok_plus (P := P) (w := w) (base := base) T
  refine okW T.F_minus sc_minus (fun ds Q E h => ?_) (fun cdv Ar outer s H E hr => ?_)
  · obtain ⟨a, b, rfl, _⟩ := h; rfl
  refine ⟨_, (pss_one (ps_ret (pe_call G_plus (hr.mono (by decide)) rfl T.m_plus T.F_plus.kp T.b_plus .nil passE0 (pa_cons (pv 0) (pa_cons (pe_tup (pa_cons (pe_un un_neg (pe_ix (ixtK (K := K) rfl) (pv 1) pe_int (fun _ _ => rfl))) (pa_cons (pe_ix (ixtK (K := K) rfl) (pv 1) pe_int (fun _ _ => rfl)) pa_nil))) pa_nil))))), _, (sv_ret (bv_ev (ev_call0 (av_cons (bv_var 0) (av_cons (bv_ev (ev_tup (ae_cons (ev_neg (bv_ev (ev_ixk 0 (ev_var 1)))) (ae_cons (ev_ixk 1 (ev_var 1)) ae_nil)) (by decide))) av_nil))))), ?_⟩
  rintro ds Q X ⟨a, b, rfl, oa, ob, k⟩
  walk_at "d"
  refine ⟨a, -b, rfl, oa, ⟨wee_neg ob.n, ob.d⟩, rfl, ?_⟩
  dsimp only
  rw [← Rat.sub_eq_add_neg]
  exact k
theorem ok_product (T : Txt K mg A) : FnOk P w K mg base (CXE P w) 3 A.a_product A.d_product ["one", "other"] (spW K (wTwo (· * ·))) := by
  have G_fraction := ok_fraction (P := P) (w := w) (base := base) T
  refine okW T.F_product sc_product (fun ds Q E h => ?_) (fun cdv Ar outer s H E hr => ?_)
  · obtain ⟨a, b, rfl, _⟩ := h; rfl
  refine ⟨_, (pss_cons (ps_set (i := 2) sc_product.nd rfl (Or.inl rfl) (pe_call G_fraction (hr.mono (by decide)) rfl T.m_fraction T.F_fraction.kp T.b_fraction .nil passE0 (pa_cons (pe_ix (ixtK (K := K) rfl) (pv 0) pe_int (fun _ _ => rfl)) (pa_cons (pe_ix (ixtK (K := K) rfl) (pv 1) pe_int (fun _ _ => rfl)) pa_nil))))
      (pss_cons (ps_set (i := 3) sc_product.nd rfl (Or.inl rfl) (pe_call G_fraction (hr.mono (by decide)) rfl T.m_fraction T.F_fraction.kp T.b_fraction .nil passE0 (pa_cons (pe_ix (ixtK (K := K) rfl) (pv 1) pe_int (fun _ _ => rfl)) (pa_cons (pe_ix (ixtK (K := K) rfl) (pv 0) pe_int (fun _ _ => rfl)) pa_nil))))
      (pss_one (ps_ret (pe_tup (pa_cons (pe_op op_mulB (pe_ix (ixtK (K := K) rfl) (pv 2) pe_int (fun _ _ => rfl)) (pe_ix (ixtK (K := K) rfl) (pv 3) pe_int (fun _ _ => rfl))) (pa_cons (pe_op op_mulB (pe_ix (ixtK (K := K) rfl) (pv 2) pe_int (fun _ _ => rfl)) (pe_ix (ixtK (K := K) rfl) (pv 3) pe_int (fun _ _ => rfl))) pa_nil))))))), _, (sv_seq (sv_asg (ev_call0 (av_cons (bv_ev (ev_ixk 0 (ev_var 0))) (av_cons (bv_ev (ev_ixk 1 (ev_var 1))) av_nil))) (gv_name 2))
      (sv_seq (sv_asg (ev_call0 (av_cons (bv_ev (ev_ixk 0 (ev_var 1))) (av_cons (bv_ev (ev_ixk 1 (ev_var 0))) av_nil))) (gv_name 3))
      (sv_ret (bv_ev (ev_tup (ae_cons (ev_op ro_i (bv_ev (ev_ixk 0 (ev_var 2))) (bv_ev (ev_ixk 0 (ev_var 3)))) (ae_cons (ev_op ro_i (bv_ev (ev_ixk 1 (ev_var 2))) (bv_ev (ev_ixk 1 (ev_var 3)))) ae_nil)) (by decide)))))), ?_⟩
  rintro ds Q X ⟨a, b, rfl, oa, ob, k⟩
  have z1 : ((b.den : Nat) : Int) ≠ 0 := by have := b.den_nz; omega
  have z2 : ((a.den : Nat) : Int) ≠ 0 := by have := a.den_nz; omega
  obtain ⟨e1, e2⟩ := Fm.mul_parts a b
  walk_at "s"
  refine ⟨_, _, rfl, ob.d, fun z => absurd z z1, fun _ => ?_⟩
  walk_at "s"
  refine ⟨_, _, rfl, oa.d, fun z => absurd z z2, fun _ => ?_⟩
  have n1 := Fm.num_le a.num z1
  have n2 := Fm.den_le a.num z1
  have n3 := Fm.num_le b.num z2
  have n4 := Fm.den_le b.num z2
  have w1 := oa.n; have w2 := oa.d; have w3 := ob.n; have w4 := ob.d
  walk_at "d"
  refine ⟨mulOk (by unfold Wee at *; omega) (by unfold Wee at *; omega), mulOk (by unfold Wee at *; omega) (by unfold Wee at *; omega), ?_⟩
  rw [← Int.natCast_mul, ← e1, ← e2]
  exact k
noncomputable def wLess : DW := fun ds Q _ => ∃ a b : Rat, ds = [fr a, fr b] ∧ Ok a ∧ Ok b ∧ Q (.dat (.bool (decide (a < b))))
theorem ok_is_less (T : Txt K mg A) : FnOk P w K mg base (CXE P w) 1 A.a_is_less A.d_is_less ["one", "other"] (spW K wLess) := by
  refine okW T.F_is_less sc_is_less (fun ds Q E h => ?_) (fun cdv Ar outer s H E hr => ?_)
  · obtain ⟨a, b, rfl, _⟩ := h; rfl
  refine ⟨_, (pss_one (ps_ret (pe_cmpR op_lt (pe_op op_mulB (pe_ix (ixtK (K := K) rfl) (pv 0) pe_int (fun _ _ => rfl)) (pe_ix (ixtK (K := K) rfl) (pv 1) pe_int (fun _ _ => rfl))) (pe_op op_mulB (pe_ix (ixtK (K := K) rfl) (pv 1) pe_int (fun _ _ => rfl)) (pe_ix (ixtK (K := K) rfl) (pv 0) pe_int (fun _ _ => rfl))) (nomark _)))), _, (sv_ret (bv_ev (ev_op ro_b0 (bv_ev (ev_op ro_i (bv_ev (ev_ixk 0 (ev_var 0))) (bv_ev (ev_ixk 1 (ev_var 1))))) (bv_ev (ev_op ro_i (bv_ev (ev_ixk 0 (ev_var 1))) (bv_ev (ev_ixk 1 (ev_var 0)))))))), ?_⟩
  rintro ds Q X ⟨a, b, rfl, oa, ob, k⟩
  walk_at "d"
  refine ⟨mulOk oa.n ob.d, mulOk ob.n oa.d, ?_⟩
  have e : decide (a.num * (b.den : Int) < b.num * (a.den : Int)) = decide (a < b) := by
    rw [decide_eq_decide]; exact Fm.less_iff a b
  rw [e]
  exact k
noncomputable def wQuot (C : Addr) : DW := fun ds Q X => ∃ a b : Rat, ds = [fr a, fr b] ∧ Ok a ∧ Ok b ∧ (b = 0 → X C) ∧ (b ≠ 0 → Q (.dat (fr (a / b))))
theorem ok_quotient (T : Txt K mg A) : FnOk P w K mg base (CXE P w) 4 A.a_quotient A.d_quotient ["one", "other"] (spW K (wQuot A.x_NoNumber)) := by
  have G_fraction := ok_fraction (P := P) (w := w) (base := base) T
  have G_product := ok_product (P := P) (w := w) (base := base) T
  refine okW T.F_quotient sc_quotient (fun ds Q E h => ?_) (fun cdv Ar outer s H E hr => ?_)
  · obtain ⟨a, b, rfl, _⟩ := h; rfl
  refine ⟨_, (pss_cons (ps_if (pt_cmpR op_eq (pe_ix (ixtK (K := K) rfl) (pv 1) pe_int (fun _ _ => rfl)) pe_int (nomark _)) (pss_one (ps_raise T.x_NoNumber hr.hd pass_own rfl (pa_cons pe_str pa_nil))) pss_nil)
      (pss_one (ps_ret (pe_call G_product (hr.mono (by decide)) rfl T.m_product T.F_product.kp T.b_product .nil passE0 (pa_cons (pv 0) (pa_cons (pe_call G_fraction (hr.mono (by decide)) rfl T.m_fraction T.F_fraction.kp T.b_fraction .nil passE0 (pa_cons (pe_ix (ixtK (K := K) rfl) (pv 1) pe_int (fun _ _ => rfl)) (pa_cons (pe_ix (ixtK (K := K) rfl) (pv 1) pe_int (fun _ _ => rfl)) pa_nil))) pa_nil)))))), _, (sv_seq (sv_if (tv_test (bv_ev (ev_op ro_eq (bv_ev (ev_ixk 0 (ev_var 1))) (bv_ev ev_int)))) (sv_raise (ae_cons ev_str ae_nil) (by decide)) sv_next)
      (sv_ret (bv_ev (ev_call0 (av_cons (bv_var 0) (av_cons (bv_ev (ev_call0 (av_cons (bv_ev (ev_ixk 1 (ev_var 1))) (av_cons (bv_ev (ev_ixk 0 (ev_var 1))) av_nil)))) av_nil)))))), ?_⟩
  rintro ds Q X ⟨a, b, rfl, oa, ob, k0, k1⟩
  walk_at "s"
  refine ite2 (fun c => ?_) (fun c => ?_)
  · exact k0 (Rat.num_eq_zero.mp c)
  · have c2 : b.num ≠ 0 := c
    have hb : b ≠ 0 := fun z => c2 (by rw [z]; rfl)
    walk_at "d"
    refine ⟨_, _, rfl, ob.n, fun z => absurd z c2, fun _ => ⟨rfl, a, b⁻¹, ?_, oa, ?_, rfl, ?_⟩⟩
    · rw [Fm.div_inv]
    · rw [← Fm.div_inv]
      have n1 := Fm.num_le (b.den : Int) c2
      have n2 := Fm.den_le (b.den : Int) c2
      have w3 := ob.n; have w4 := ob.d
      exact ⟨by unfold Wee at *; omega, by unfold Wee at *; omega⟩
    · dsimp only
      rw [← Rat.div_def]
      exact k1 hb
end
theorem atI_map {α β : Type} (f : α → β) (xs : List α) (i : Int) : atI (xs.map f) i = (atI xs i).map f := by
  unfold atI
  rw [List.length_map]
  cases ixN xs.length i with
  | none => rfl
  | some j => exact List.getElem?_map
theorem atI_k {α : Type} [Inhabited α] {xs : List α} {k : Int} (h0 : 0 ≤ k) (h1 : k < (xs.length : Int)) : atI xs k = some (xs.getD k.toNat default) := by
  have e : k = ((k.toNat : Nat) : Int) := by omega
  have hl : k.toNat < xs.length := by omega
  conv => lhs; rw [e]
  refine atI_nat ?_
  rw [List.getElem?_eq_getElem hl]
  simp [List.getD, hl]
theorem atI_mk {α β : Type} [Inhabited α] (f : α → β) {xs : List α} {k : Int} (h0 : 0 ≤ k) (h1 : k < (xs.length : Int)) : atI (xs.map f) k = some (f (xs.getD k.toNat default)) := by
  rw [atI_map, atI_k h0 h1]; rfl
theorem getD_mem' {α : Type} [Inhabited α] {xs : List α} {j : Nat} (h : j < xs.length) : xs.getD j default ∈ xs := by
  have e : xs.getD j default = xs[j] := by simp [List.getD, h]
  rw [e]; exact List.getElem_mem h
theorem getD_all {α : Type} [Inhabited α] {xs : List α} {j : Nat} {p : α → Prop} (h : ∀ v ∈ xs, p v) (h0 : p default) : p (xs.getD j default) := by
  by_cases hj : j < xs.length
  · exact h _ (getD_mem' hj)
  · have e : xs.getD j default = default := by simp [List.getD, hj]
    rw [e]; exact h0
section
variable {P : Program} {w : World} {K : PySem.W.Frag} {mg : Str → Option Value} {base : Heap} {A : Adr}
noncomputable def wGreatest (C : Addr) : DW := fun ds Q X => ∃ qs : List Rat, ds = [.list (qs.map fr)] ∧ (∀ q ∈ qs, Ok q) ∧ (qs = [] → X C) ∧ ∀ q ∈ qs, (∀ r ∈ qs, r ≤ q) → Q (.dat (fr q))
theorem ok_greatest_of (T : Txt K mg A) : FnOk P w K mg base (CXE P w) 2 A.a_greatest_of A.d_greatest_of ["some"] (spW K (wGreatest A.x_NoNumber)) := by
  have G_is_less := ok_is_less (P := P) (w := w) (base := base) T
  refine okW T.F_greatest_of sc_greatest_of (fun ds Q E h => ?_) (fun cdv Ar outer s H E hr => ?_)
  · obtain ⟨a, rfl, _⟩ := h; rfl
  refine ⟨_, (pss_cons (ps_if (pt_cmpR op_eq (pe_callB (lenK (K := K) rfl) rfl T.n_len PySem.boot_len (pa_cons (pv 0) pa_nil)) pe_int (nomark _)) (pss_one (ps_raise T.x_NoNumber hr.hd pass_own rfl (pa_cons pe_str pa_nil))) pss_nil)
      (pss_cons (ps_set (i := 1) sc_greatest_of.nd rfl (Or.inl rfl) (pe_ix (ixlK (K := K) rfl) (pv 0) pe_int (fun _ _ => rfl)))
      (pss_cons (ps_for PassesOwn.leaving rfl (pilK (K := K) rfl (pv 0)) (pg_name (i := 2) sc_greatest_of.nd rfl (Or.inl rfl))
        (pss_one (ps_if (pt_val (pe_call G_is_less (hr.mono (by decide)) rfl T.m_is_less T.F_is_less.kp T.b_is_less .nil passE0 (pa_cons (pv 1) (pa_cons (pv 2) pa_nil)))) (pss_one (ps_set (i := 1) sc_greatest_of.nd rfl (Or.inl rfl) (pv 2))) pss_nil)))
      (pss_one (ps_ret (pv 1)))))), _, (sv_seq (sv_if (tv_test (bv_ev (ev_op ro_eq (bv_ev (ev_cb rb_len (av_cons (bv_var 0) av_nil))) (bv_ev ev_int)))) (sv_raise (ae_cons ev_str ae_nil) (by decide)) sv_next)
      (sv_seq (sv_asg (ev_ixl (lv_var 0) (bv_ev ev_int)) (gv_name 1))
      (sv_seq (sv_for (is_list (ev_var 0)) (gv_name 2)
        (sv_if (tv_b (bv_ev (ev_call0 (av_cons (bv_var 1) (av_cons (bv_var 2) av_nil))))) (sv_asg (ev_var 2) (gv_name 1)) sv_next))
      (sv_retV 1)))), ?_⟩
  rintro ds Q X ⟨qs, rfl, ho, k0, k⟩
  walk_at "s"
  rcases qs with _ | ⟨q0, qs⟩
  · rw [if_pos (by simp)]
    exact k0 rfl
  rw [if_neg (by simp; omega)]
  walk_at "s"
  refine ⟨fr q0, atI_nat (j := 0) rfl, seq_mk (for_map fr (q0 :: qs) (fun Q h => h) (fun i δ => ∃ q r, δ = [some (.dat (.list ((q0 :: qs).map fr))), some (.dat (fr q)), r] ∧ q ∈ q0 :: qs ∧ ∀ j r, j < i → (q0 :: qs)[j]? = some r → r ≤ q) ⟨q0, none, rfl, List.mem_cons_self, fun j r hj => absurd hj (Nat.not_lt_zero _)⟩ ?_ ?_)⟩
  · rintro i q1 δ hi ⟨q, r, rfl, hq, hle⟩
    walk_at "d"
    refine ⟨q, q1, rfl, ho q hq, ho q1 (List.mem_of_getElem? hi), ?_⟩
    walk_at "d"
    have up : ∀ z, q ≤ z → q1 ≤ z → ∀ j r, j < i + 1 → (q0 :: qs)[j]? = some r → r ≤ z := fun z h1 h2 j r hj e => by
      by_cases hji : j = i
      · subst hji
        rw [hi] at e
        cases e
        exact h2
      · exact Rat.le_trans (hle j r (by omega) e) h1
    refine ite2 (fun c => ?_) (fun c => ?_)
    · exact ⟨q1, _, rfl, List.mem_of_getElem? hi, up q1 (by grind) Rat.le_refl⟩
    · exact ⟨q, _, rfl, hq, up q Rat.le_refl (Rat.not_lt.mp c)⟩
  · rintro δ ⟨q, r, rfl, hq, hle⟩
    walk_at "d"
    refine k q hq fun r hr' => ?_
    obtain ⟨j, hj⟩ := List.getElem?_of_mem hr'
    exact hle j r (List.getElem?_eq_some_iff.mp hj).1 hj
noncomputable def wLeast (C : Addr) : DW := fun ds Q X => ∃ qs : List Rat, ds = [.list (qs.map fr)] ∧ (∀ q ∈ qs, Ok q) ∧ (qs = [] → X C) ∧ ∀ q ∈ qs, (∀ r ∈ qs, q ≤ r) → Q (.dat (fr q))
theorem ok_least_of (T : Txt K mg A) : FnOk P w K mg base (CXE P w) 2 A.a_least_of A.d_least_of ["some"] (spW K (wLeast A.x_NoNumber)) := by
  have G_is_less := ok_is_less (P := P) (w := w) (base := base) T
  refine okW T.F_least_of sc_least_of (fun ds Q E h => ?_) (fun cdv Ar outer s H E hr => ?_)
  · obtain ⟨a, rfl, _⟩ := h; rfl
  refine ⟨_, (pss_cons (ps_if (pt_cmpR op_eq (pe_callB (lenK (K := K) rfl) rfl T.n_len PySem.boot_len (pa_cons (pv 0) pa_nil)) pe_int (nomark _)) (pss_one (ps_raise T.x_NoNumber hr.hd pass_own rfl (pa_cons pe_str pa_nil))) pss_nil)
      (pss_cons (ps_set (i := 1) sc_least_of.nd rfl (Or.inl rfl) (pe_ix (ixlK (K := K) rfl) (pv 0) pe_int (fun _ _ => rfl)))
      (pss_cons (ps_for PassesOwn.leaving rfl (pilK (K := K) rfl (pv 0)) (pg_name (i := 2) sc_least_of.nd rfl (Or.inl rfl))
        (pss_one (ps_if (pt_val (pe_call G_is_less (hr.mono (by decide)) rfl T.m_is_less T.F_is_less.kp T.b_is_less .nil passE0 (pa_cons (pv 2) (pa_cons (pv 1) pa_nil)))) (pss_one (ps_set (i := 1) sc_least_of.nd rfl (Or.inl rfl) (pv 2))) pss_nil)))
      (pss_one (ps_ret (pv 1)))))), _, (sv_seq (sv_if (tv_test (bv_ev (ev_op ro_eq (bv_ev (ev_cb rb_len (av_cons (bv_var 0) av_nil))) (bv_ev ev_int)))) (sv_raise (ae_cons ev_str ae_nil) (by decide)) sv_next)
      (sv_seq (sv_asg (ev_ixl (lv_var 0) (bv_ev ev_int)) (gv_name 1))
      (sv_seq (sv_for (is_list (ev_var 0)) (gv_name 2)
        (sv_if (tv_b (bv_ev (ev_call0 (av_cons (bv_var 2) (av_cons (bv_var 1) av_nil))))) (sv_asg (ev_var 2) (gv_name 1)) sv_next))
      (sv_retV 1)))), ?_⟩
  rintro ds Q X ⟨qs, rfl, ho, k0, k⟩
  walk_at "s"
  rcases qs with _ | ⟨q0, qs⟩
  · rw [if_pos (by simp)]
    exact k0 rfl
  rw [if_neg (by simp; omega)]
  walk_at "s"
  refine ⟨fr q0, atI_nat (j := 0) rfl, seq_mk (for_map fr (q0 :: qs) (fun Q h => h) (fun i δ => ∃ q r, δ = [some (.dat (.list ((q0 :: qs).map fr))), some (.dat (fr q)), r] ∧ q ∈ q0 :: qs ∧ ∀ j r, j < i → (q0 :: qs)[j]? = some r → q ≤ r) ⟨q0, none, rfl, List.mem_cons_self, fun j r hj => absurd hj (Nat.not_lt_zero _)⟩ ?_ ?_)⟩
  · rintro i q1 δ hi ⟨q, r, rfl, hq, hle⟩
    walk_at "d"
    refine ⟨q1, q, rfl, ho q1 (List.mem_of_getElem? hi), ho q hq, ?_⟩
    walk_at "d"
    have up : ∀ z, z ≤ q → z ≤ q1 → ∀ j r, j < i + 1 → (q0 :: qs)[j]? = some r → z ≤ r := fun z h1 h2 j r hj e => by
      by_cases hji : j = i
      · subst hji
        rw [hi] at e
        cases e
        exact h2
      · exact Rat.le_trans h1 (hle j r (by omega) e)
    refine ite2 (fun c => ?_) (fun c => ?_)
    · exact ⟨q1, _, rfl, List.mem_of_getElem? hi, up q1 (by grind) Rat.le_refl⟩
    · exact ⟨q, _, rfl, hq, up q Rat.le_refl (Rat.not_lt.mp c)⟩
  · rintro δ ⟨q, r, rfl, hq, hle⟩
    walk_at "d"
    refine k q hq fun r hr' => ?_
    obtain ⟨j, hj⟩ := List.getElem?_of_mem hr'
    exact hle j r (List.getElem?_eq_some_iff.mp hj).1 hj
end
noncomputable def tot : List Rat → Rat
  | [] => 0
  | q :: qs => q + tot qs
theorem tot_app : ∀ (a b : List Rat), tot (a ++ b) = tot a + tot b
  | [], b => by simp [tot, Rat.zero_add]
  | q :: a, b => by
    show q + tot (a ++ b) = q + tot a + tot b
    rw [tot_app a b, Rat.add_assoc]
theorem tot_snoc (qs : List Rat) (q : Rat) : tot (qs ++ [q]) = tot qs + q := by
  rw [tot_app]
  simp [tot, Rat.add_zero]
theorem take_snoc {α : Type} {xs : List α} {i : Nat} {x : α} (h : xs[i]? = some x) : xs.take (i + 1) = xs.take i ++ [x] := by
  rw [List.take_add_one, h]; rfl
section
variable {P : Program} {w : World} {K : PySem.W.Frag} {mg : Str → Option Value} {base : Heap} {A : Adr}
noncomputable def wTotal : DW := fun ds Q _ => ∃ qs : List Rat, ds = [.list (qs.map fr)] ∧ (∀ q ∈ qs, Ok q) ∧ (∀ i, Ok (tot (qs.take i))) ∧ Q (.dat (fr (tot qs)))
theorem ok_total_of (T : Txt K mg A) : FnOk P w K mg base (CXE P w) 3 A.a_total_of A.d_total_of ["some"] (spW K wTotal) := by
  have G_plus := ok_plus (P := P) (w := w) (base := base) T
  refine okW T.F_total_of sc_total_of (fun ds Q E h => ?_) (fun cdv Ar outer s H E hr => ?_)
  · obtain ⟨a, rfl, _⟩ := h; rfl
  refine ⟨_, (pss_cons (ps_set (i := 1) sc_total_of.nd rfl (Or.inl rfl) (pe_glob rfl T.c_NOUGHT (show RelV (.ref _) (.ref _) from rfl)))
      (pss_cons (ps_for PassesOwn.leaving rfl (pilK (K := K) rfl (pv 0)) (pg_name (i := 2) sc_total_of.nd rfl (Or.inl rfl))
        (pss_one (ps_set (i := 1) sc_total_of.nd rfl (Or.inl rfl) (pe_call G_plus (hr.mono (by decide)) rfl T.m_plus T.F_plus.kp T.b_plus .nil passE0 (pa_cons (pv 1) (pa_cons (pv 2) pa_nil))))))
      (pss_one (ps_ret (pv 1))))), _, (sv_seq (sv_asg (ev_c T.k_NOUGHT) (gv_name 1))
      (sv_seq (sv_for (is_list (ev_var 0)) (gv_name 2)
        (sv_asg (ev_call0 (av_cons (bv_var 1) (av_cons (bv_var 2) av_nil))) (gv_name 1)))
      (sv_retV 1))), ?_⟩
  rintro ds Q X ⟨qs, rfl, ho, ht, k⟩
  walk_at "s"
  refine ?_
  refine seq_mk (for_map fr qs (fun Q h => h) (fun i δ => ∃ r, δ = [some (.dat (.list (qs.map fr))), some (.dat (fr (tot (qs.take i)))), r]) ⟨none, rfl⟩ ?_ ?_)
  · rintro i q δ hi ⟨r, rfl⟩
    walk_at "d"
    refine ⟨_, q, rfl, ht i, ho q (List.mem_of_getElem? hi), ?_⟩
    walk_at "d"
    exact ⟨_, by rw [take_snoc hi, tot_snoc]⟩
  · rintro δ ⟨r, rfl⟩
    walk_at "d"
    rw [List.take_of_length_le (Nat.le_refl _)]
    exact k
end
theorem flat_single {α β : Type} (f : α → β) : ∀ xs : List α, xs.flatMap (fun x => [f x]) = xs.map f
  | [] => rfl
  | x :: xs => by simp [flat_single f xs]
noncomputable abbrev Mk := Rat × Rat × Int
noncomputable abbrev mk3 (m : Mk) : PyData := .tuple [fr m.1, fr m.2.1, .int m.2.2]
theorem mks_flat : ∀ ms : List Mk, flatDs (ms.map mk3) = true
  | [] => rfl
  | m :: ms => by
    have := mks_flat ms
    simp only [List.map_cons, flatDs, flatD, this, Bool.and_self]
noncomputable def Bg (n : Nat) (v : Int) : Prop := v.natAbs < 2 ^ n
theorem Bg.bits {n : Nat} {v : Int} (h : Bg n v) : Builtin.Int.intBits v ≤ n := bits_lt h
theorem Bg.of {n : Nat} {v : Int} (h : Builtin.Int.intBits v ≤ n) : Bg (n + 1) v := by
  unfold Bg
  by_cases h0 : v = 0
  · subst h0; exact Nat.two_pow_pos _
  · unfold Builtin.Int.intBits at h
    rw [if_neg (by simpa using h0)] at h
    exact (Nat.log2_lt (by omega)).mp (by omega)
theorem Bg.add {n : Nat} {a b : Int} (ha : Bg n a) (hb : Bg n b) : Bg (n + 1) (a + b) := by
  unfold Bg at *
  rw [Nat.pow_succ]
  have := Int.natAbs_add_le a b
  omega
theorem Bg.div {n : Nat} {a : Int} (ha : Bg n a) (k : Int) (hk : 0 < k) : Bg n (a / k) := by
  unfold Bg at *
  refine Nat.lt_of_le_of_lt ?_ ha
  by_cases h0 : 0 ≤ a
  · have h1 := Int.ediv_nonneg h0 (Int.le_of_lt hk)
    have h2 := Int.ediv_le_self k h0
    omega
  · have h1 : a / k < 0 := Int.ediv_neg_of_neg_of_pos (by omega) hk
    have h2 : a ≤ a / k := by
      refine (Int.le_ediv_iff_mul_le hk).mpr ?_
      have h := Int.mul_nonneg (a := -a) (b := k - 1) (by omega) (by omega)
      have e : (-a) * (k - 1) = a - a * k := by
        rw [Int.mul_sub, Int.neg_mul, Int.neg_mul, Int.mul_one]
        omega
      omega
    omega
theorem Bg.small {n : Nat} {a : Int} (h : a.natAbs < 2 ^ 64) (hn : 64 ≤ n) : Bg n a := Nat.lt_of_lt_of_le h (Nat.pow_le_pow_right (by decide) hn)
open Fm
theorem dgOk {n : Nat} {q : Rat} (h : Dg n q) (l : n ≤ 2400) : Ok q := okS (h.mono l) (by decide +kernel)
theorem tenWee {n : Nat} {i : Int} (h : i.natAbs ≤ 10 ^ n) (l : n ≤ 2400) : Wee i := weeLe (Nat.le_trans h (ten_le l)) (by decide +kernel)
theorem pairD_map {α β : Type} (f : α → PyData) (g : β → PyData) : ∀ (xs : List α) (ys : List β), pairD (xs.map f) (ys.map g) = (xs.zip ys).map fun p => PyData.tuple [f p.1, g p.2]
  | [], _ => by simp [Dl.pairD]
  | x :: xs, [] => by simp [Dl.pairD]
  | x :: xs, y :: ys => by
    have := pairD_map f g xs ys
    simp [Dl.pairD, this]
theorem zip_map {α β γ : Type} (f : α → β → γ) : ∀ (xs : List α) (ys : List β), ((xs.zip ys).map fun p => f p.1 p.2) = List.zipWith f xs ys
  | [], _ => by simp
  | x :: xs, [] => by simp
  | x :: xs, y :: ys => by simp [zip_map f xs ys]
theorem zip_all {α β : Type} {p : α → Prop} {q : β → Prop} : ∀ {xs : List α} {ys : List β}, (∀ x ∈ xs, p x) → (∀ y ∈ ys, q y) → ∀ z ∈ xs.zip ys, p z.1 ∧ q z.2 := fun {xs ys} h1 h2 z hz => by
  have := List.of_mem_zip (a := z.1) (b := z.2) hz
  exact ⟨h1 _ this.1, h2 _ this.2⟩
theorem zipWith_all {α β γ : Type} {f : α → β → γ} {p : α → Prop} {q : β → Prop} {r : γ → Prop} {xs : List α} {ys : List β} (h1 : ∀ x ∈ xs, p x) (h2 : ∀ y ∈ ys, q y) (h : ∀ x y, p x → q y → r (f x y)) : ∀ z ∈ List.zipWith f xs ys, r z := fun z hz => by
  rw [← zip_map] at hz
  obtain ⟨w, hw, rfl⟩ := List.mem_map.mp hz
  have := zip_all h1 h2 w hw
  exact h _ _ this.1 this.2
noncomputable def missR (ms : List Mk) (row : List Rat) : List Rat := List.zipWith (fun (m : Mk) h => m.2.1 - h) ms row
noncomputable def wmissR (ms : List Mk) (row : List Rat) : List Rat := List.zipWith (fun (m : Mk) x => (m.2.2 : Rat) * x) ms (missR ms row)
noncomputable def sqR (ms : List Mk) (row : List Rat) : List Rat := List.zipWith (fun a b => a * b) (wmissR ms row) (missR ms row)
noncomputable def maxR : List Rat → Rat
  | [] => 0
  | x :: xs => if maxR xs < x then x else maxR xs
theorem maxR_nn : ∀ xs : List Rat, 0 ≤ maxR xs
  | [] => Rat.le_refl
  | x :: xs => by
    have := maxR_nn xs
    unfold maxR
    split
    · grind
    · exact this
theorem maxR_le : ∀ {xs : List Rat}, ∀ x ∈ xs, x ≤ maxR xs
  | y :: xs, x, h => by
    have ih := @maxR_le xs
    unfold maxR
    rcases List.mem_cons.mp h with rfl | h
    · split
      · exact Rat.le_refl
      · exact Rat.not_lt.mp ‹_›
    · have := ih x h
      split
      · grind
      · exact this
theorem maxR_mem : ∀ {xs : List Rat}, maxR xs = 0 ∨ maxR xs ∈ xs
  | [] => .inl rfl
  | x :: xs => by
    unfold maxR
    split
    · exact .inr List.mem_cons_self
    · rcases @maxR_mem xs with h | h
      · exact .inl h
      · exact .inr (List.mem_cons_of_mem _ h)
theorem maxR_eq {xs : List Rat} {m : Rat} (h0 : 0 ≤ m) (h1 : m = 0 ∨ m ∈ xs) (h2 : ∀ x ∈ xs, x ≤ m) : m = maxR xs := by
  refine Rat.le_antisymm ?_ ?_
  · rcases h1 with rfl | h1
    · exact maxR_nn xs
    · exact maxR_le m h1
  · rcases @maxR_mem xs with h | h
    · rw [h]; exact h0
    · exact h2 _ h
noncomputable def meas (kd : Str) (ms : List Mk) (row : List Rat) : Rat := if kd = "far" then maxR ((missR ms row).map absR) else if kd = "sum" then tot ((wmissR ms row).map absR) else tot (sqR ms row)
theorem Cm.tot {L B : Nat} : ∀ {qs : List Rat}, (∀ q ∈ qs, Cm L B q) → Cm L (qs.length * B) (tot qs)
  | [], _ => Cm.zero
  | q :: qs, h => by
    have h1 := h q List.mem_cons_self
    have h2 := Cm.tot (qs := qs) fun x hx => h x (List.mem_cons_of_mem _ hx)
    exact (h1.add h2).mono (Nat.dvd_refl _) (by rw [List.length_cons, Nat.add_mul]; omega)
theorem two_ten {B b : Nat} (h : B ≤ 10 ^ b) : B + B ≤ 10 ^ (b + 1) := by rw [Nat.pow_succ]; omega
theorem mul_ten {B b C c : Nat} (h : B ≤ 10 ^ b) (h2 : C ≤ 10 ^ c) : B * C ≤ 10 ^ (b + c) := by rw [Nat.pow_add]; exact Nat.mul_le_mul h h2
theorem sixty_ten {n B b : Nat} (hn : n ≤ 60) (h : B ≤ 10 ^ b) : n * B ≤ 10 ^ (b + 2) := by
  have : n * B ≤ 60 * 10 ^ b := Nat.mul_le_mul hn h
  rw [Nat.pow_add]
  omega
structure MSz (L B W l b wd : Nat) (ms : List Mk) (row : List Rat) : Prop where
  len : ms.length ≤ 60
  pos : 0 < L
  pL : L ≤ 10 ^ l
  pB : B ≤ 10 ^ b
  pW : W ≤ 10 ^ wd
  h : ∀ m ∈ ms, Cm L B m.2.1
  r : ∀ q ∈ row, Cm L B q
  w : ∀ m ∈ ms, m.2.2.natAbs ≤ W
  fit : 2 * l + 2 * b + wd + 6 ≤ 2400
section
variable {L B W l b wd : Nat} {ms : List Mk} {row : List Rat}
theorem MSz.miss (z : MSz L B W l b wd ms row) : ∀ x ∈ missR ms row, Cm L (B + B) x := zipWith_all z.h z.r fun _ _ h1 h2 => h1.sub h2
theorem MSz.wmiss (z : MSz L B W l b wd ms row) : ∀ x ∈ wmissR ms row, Cm L (W * (B + B)) x := zipWith_all z.w z.miss fun _ _ h1 h2 => ((Cm.int h1).mul h2).mono (by rw [Nat.one_mul]; exact Nat.dvd_refl _) (Nat.le_refl _)
theorem MSz.sq (z : MSz L B W l b wd ms row) : ∀ x ∈ sqR ms row, Cm (L * L) (W * (B + B) * (B + B)) x := zipWith_all z.wmiss z.miss fun _ _ h1 h2 => h1.mul h2
theorem MSz.missOk (z : MSz L B W l b wd ms row) : ∀ x ∈ missR ms row, Ok x := fun x hx => dgOk ((z.miss x hx).dg z.pos z.pL (two_ten z.pB)) (by have := z.fit; omega)
theorem MSz.wmissOk (z : MSz L B W l b wd ms row) : ∀ x ∈ wmissR ms row, Ok x := fun x hx => dgOk ((z.wmiss x hx).dg z.pos z.pL (mul_ten z.pW (two_ten z.pB))) (by have := z.fit; omega)
theorem MSz.sqOk (z : MSz L B W l b wd ms row) : ∀ x ∈ sqR ms row, Ok x := fun x hx => dgOk ((z.sq x hx).dg (Nat.mul_pos z.pos z.pos) (mul_ten z.pL z.pL) (mul_ten (mul_ten z.pW (two_ten z.pB)) (two_ten z.pB))) (by have := z.fit; omega)
theorem wmissR_len : (wmissR ms row).length ≤ ms.length := by unfold wmissR; rw [List.length_zipWith]; omega
theorem sqR_len : (sqR ms row).length ≤ ms.length := by unfold sqR; rw [List.length_zipWith]; have := wmissR_len (ms := ms) (row := row); omega
theorem MSz.sumOk (z : MSz L B W l b wd ms row) (i : Nat) : Ok (tot (((wmissR ms row).map absR).take i)) := by
  have h := Cm.tot (qs := ((wmissR ms row).map absR).take i) (L := L) (B := W * (B + B)) fun q hq => by
    obtain ⟨x, hx, rfl⟩ := List.mem_map.mp (List.mem_of_mem_take hq)
    exact (z.wmiss x hx).abs
  have hl : (((wmissR ms row).map absR).take i).length ≤ 60 := by
    rw [List.length_take, List.length_map]; have := wmissR_len (ms := ms) (row := row); have := z.len; omega
  exact dgOk (h.dg z.pos z.pL (sixty_ten hl (mul_ten z.pW (two_ten z.pB)))) (by have := z.fit; omega)
theorem MSz.sqsOk (z : MSz L B W l b wd ms row) (i : Nat) : Ok (tot ((sqR ms row).take i)) := by
  have h := Cm.tot (qs := (sqR ms row).take i) (L := L * L) (B := W * (B + B) * (B + B)) fun q hq => z.sq q (List.mem_of_mem_take hq)
  have hl : ((sqR ms row).take i).length ≤ 60 := by
    rw [List.length_take]; have := sqR_len (ms := ms) (row := row); have := z.len; omega
  exact dgOk (h.dg (Nat.mul_pos z.pos z.pos) (mul_ten z.pL z.pL) (sixty_ten hl (mul_ten (mul_ten z.pW (two_ten z.pB)) (two_ten z.pB)))) (by have := z.fit; omega)
theorem MSz.measOk (z : MSz L B W l b wd ms row) {kd : Str} : Ok (meas kd ms row) := by
  unfold meas
  split
  · rcases @maxR_mem ((missR ms row).map absR) with h | h
    · rw [h]; exact ⟨wee (by decide +kernel), show Wee ((1 : Nat) : Int) from wee (by decide +kernel)⟩
    · obtain ⟨x, hx, e⟩ := List.mem_map.mp h
      rw [← e]
      have := z.missOk x hx
      exact ⟨by rw [absR_num]; have := this.n; unfold Wee at *; omega, this.d⟩
  · split
    · have := z.sumOk ((wmissR ms row).map absR).length
      rwa [List.take_of_length_le (Nat.le_refl _)] at this
    · have := z.sqsOk (sqR ms row).length
      rwa [List.take_of_length_le (Nat.le_refl _)] at this
theorem MSz.hOk (z : MSz L B W l b wd ms row) : ∀ m ∈ ms, Ok m.2.1 := fun m hm => dgOk ((z.h m hm).dg z.pos z.pL z.pB) (by have := z.fit; omega)
theorem MSz.rOk (z : MSz L B W l b wd ms row) : ∀ q ∈ row, Ok q := fun m hm => dgOk ((z.r m hm).dg z.pos z.pL z.pB) (by have := z.fit; omega)
theorem MSz.wOk (z : MSz L B W l b wd ms row) {m : Mk} (hm : m ∈ ms) : Ok (m.2.2 : Rat) := ⟨tenWee (Nat.le_trans (z.w m hm) z.pW) (by have := z.fit; omega), show Wee ((1 : Nat) : Int) from wee (by decide +kernel)⟩
end
section
variable {P : Program} {w : World} {K : PySem.W.Frag} {mg : Str → Option Value} {base : Heap} {A : Adr}
noncomputable def wSize : DW := fun ds Q _ => ∃ q : Rat, ds = [fr q] ∧ Q (.dat (fr (absR q)))
theorem ok_size_of (T : Txt K mg A) : FnOk P w K mg base (CXE P w) 1 A.a_size_of A.d_size_of ["one"] (spW K wSize) := by
  refine okW T.F_size_of sc_size_of (fun ds Q E h => ?_) (fun cdv Ar outer s H E hr => ?_)
  · obtain ⟨_, rfl, _⟩ := h; rfl
  refine ⟨_, (pss_one (ps_ret (pe_tup (pa_cons (pe_callB call_abs rfl T.n_abs bt_abs (pa_cons (pe_ix (ixtK (K := K) rfl) (pv 0) pe_int (fun _ _ => rfl)) pa_nil)) (pa_cons (pe_ix (ixtK (K := K) rfl) (pv 0) pe_int (fun _ _ => rfl)) pa_nil))))), _, (sv_ret (bv_ev (ev_tup (ae_cons (ev_cb rb_abs (av_cons (bv_ev (ev_ixk 0 (ev_var 0))) av_nil)) (ae_cons (ev_ixk 1 (ev_var 0)) ae_nil)) (by decide)))), ?_⟩
  rintro ds Q X ⟨q, rfl, k⟩
  walk_at "d"
  rw [Fm.abs_if]
  exact k
noncomputable def wMisses : DW := fun ds Q _ => ∃ (ms : List Mk) (row : List Rat), ds = [.list (ms.map mk3), .list (row.map fr)] ∧ ms.length ≤ 1000 ∧ (∀ m ∈ ms, Ok m.2.1) ∧ (∀ q ∈ row, Ok q) ∧ Q (.own ((missR ms row).map fr))
theorem ok_misses_of (T : Txt K mg A) : FnOk P w K mg base (CXE P w) 4 A.a_misses_of A.d_misses_of ["marks", "row"] (spW K wMisses) := by
  have G_minus := ok_minus (P := P) (w := w) (base := base) T
  refine okW T.F_misses_of sc_misses_of (fun ds Q E h => ?_) (fun cdv Ar outer s H E hr => ?_)
  · obtain ⟨_, _, rfl, _⟩ := h; rfl
  refine ⟨_, (pss_one (ps_ret (pe_lc (cap := [none, none]) (NC := ["mark", "height"]) rfl ⟨rfl, rfl, by decide +kernel, by decide +kernel, trivial, (fun _ h => nomatch h), rfl⟩ (pi_zip (K := K) rfl rfl T.n_zip (pa_cons (pv 0) (pa_cons (pv 1) pa_nil))) (fun _ _ _ _ => (pgtK (K := K) (n := 2) rfl rfl (pgs_cons (pg_name (i := 0) (show List.Nodup (["mark", "height"] : List Str) by decide) rfl (Or.inl rfl)) (pgs_cons (pg_name (i := 1) (show List.Nodup (["mark", "height"] : List Str) by decide) rfl (Or.inl rfl)) pgs_nil)))) (fun _ _ _ _ => pts_nil) (fun _ _ _ _ => (pe_call G_minus (hr.mono (by decide)) rfl T.m_minus T.F_minus.kp T.b_minus .nil passE0 (pa_cons (pe_ix (ixtK (K := K) rfl) (pv 0) pe_int (fun _ _ => rfl)) (pa_cons (pv 1) pa_nil))))))), _, (sv_retO (ov_lc (ie_zip (lv_var 0) (lv_var 1)) (gv_tup (gs_cons (gv_name 0) (gs_cons (gv_name 1) gs_nil))) tv_yes (ev_call0 (av_cons (bv_ev (ev_ixk 1 (ev_var 0))) (av_cons (bv_var 1) av_nil))) (by decide) (by decide))), ?_⟩
  rintro ds Q X ⟨ms, row, rfl, hl, hm, hr', k⟩
  walk_at "d"
  refine lc_map (fun p : Mk × Rat => PyData.tuple [mk3 p.1, fr p.2]) fr (fun p : Mk × Rat => [p.1.2.1 - p.2]) (ms.zip row) (by rw [List.length_zip]; omega) (fun Q h => by
      walk_at "d"
      rw [pairD_map]; exact h) (fun p hp N acc hN => ?_) ?_
  · have := zip_all hm hr' p hp
    walk_at "d"
    refine ⟨p.1.2.1, p.2, rfl, this.1, this.2, ?_⟩
    walk_at "d"
    exact hN
  · rw [flat_single, zip_map (fun (m : Mk) h => m.2.1 - h)]
    exact k
noncomputable def wWeighed : DW := fun ds Q _ => ∃ (ms : List Mk) (row : List Rat) (L B W l b wd : Nat), ds = [.list (ms.map mk3), .list (row.map fr)] ∧ MSz L B W l b wd ms row ∧ Q (.own ((wmissR ms row).map fr))
theorem ok_weighed_misses (T : Txt K mg A) : FnOk P w K mg base (CXE P w) 5 A.a_weighed_misses A.d_weighed_misses ["marks", "row"] (spW K wWeighed) := by
  have G_product := ok_product (P := P) (w := w) (base := base) T
  have G_misses_of := ok_misses_of (P := P) (w := w) (base := base) T
  refine okW T.F_weighed_misses sc_weighed_misses (fun ds Q E h => ?_) (fun cdv Ar outer s H E hr => ?_)
  · obtain ⟨_, _, _, _, _, _, _, _, rfl, _⟩ := h; rfl
  refine ⟨_, (pss_one (ps_ret (pe_lc (cap := [none, none]) (NC := ["mark", "miss"]) rfl ⟨rfl, rfl, by decide +kernel, by decide +kernel, trivial, (fun _ h => nomatch h), rfl⟩ (pi_zip (K := K) rfl rfl T.n_zip (pa_cons (pv 0) (pa_cons (pe_call G_misses_of (hr.mono (by decide)) rfl T.m_misses_of T.F_misses_of.kp T.b_misses_of .nil passE0 (pa_cons (pv 0) (pa_cons (pv 1) pa_nil))) pa_nil))) (fun _ _ _ _ => (pgtK (K := K) (n := 2) rfl rfl (pgs_cons (pg_name (i := 0) (show List.Nodup (["mark", "miss"] : List Str) by decide) rfl (Or.inl rfl)) (pgs_cons (pg_name (i := 1) (show List.Nodup (["mark", "miss"] : List Str) by decide) rfl (Or.inl rfl)) pgs_nil)))) (fun _ _ _ _ => pts_nil) (fun _ _ _ _ => (pe_call G_product (hr.mono (by decide)) rfl T.m_product T.F_product.kp T.b_product .nil passE0 (pa_cons (pe_tup (pa_cons (pe_ix (ixtK (K := K) rfl) (pv 0) pe_int (fun _ _ => rfl)) (pa_cons pe_int pa_nil))) (pa_cons (pv 1) pa_nil))))))), _, (sv_retO (ov_lc (ie_zip (lv_var 0) (lv_ov (ov_call0 (av_cons (bv_var 0) (av_cons (bv_var 1) av_nil))))) (gv_tup (gs_cons (gv_name 0) (gs_cons (gv_name 1) gs_nil))) tv_yes (ev_call0 (av_cons (bv_ev (ev_tup (ae_cons (ev_ixk 2 (ev_var 0)) (ae_cons ev_int ae_nil)) (by decide))) (av_cons (bv_var 1) av_nil))) (by decide) (by decide))), ?_⟩
  rintro ds Q X ⟨ms, row, L, B, W, l, b, wd, rfl, z, k⟩
  walk_at "d"
  refine lc_map (fun p : Mk × Rat => PyData.tuple [mk3 p.1, fr p.2]) fr (fun p : Mk × Rat => [(p.1.2.2 : Rat) * p.2]) (ms.zip (missR ms row)) (by rw [List.length_zip]; have := z.len; omega) (fun Q h => by
      walk_at "d"
      refine ⟨ms, row, rfl, by have := z.len; omega, z.hOk, z.rOk, ?_⟩
      walk_at "d"
      refine ⟨frs_flat _, ?_⟩
      rw [pairD_map]; exact h) (fun p hp N acc hN => ?_) ?_
  · have := zip_all (p := fun m => m ∈ ms) (fun _ h => h) z.missOk p hp
    walk_at "d"
    refine ⟨(p.1.2.2 : Rat), p.2, rfl, z.wOk this.1, this.2, ?_⟩
    walk_at "d"
    exact hN
  · rw [flat_single, zip_map (fun (m : Mk) x => (m.2.2 : Rat) * x)]
    exact k
noncomputable def kdsL : List Str := ["far", "sum", "square"]
noncomputable def kdsS : List { x : Str // PyData.strOk x = true } := [⟨"far", by decide +kernel⟩, ⟨"sum", by decide +kernel⟩, ⟨"square", by decide +kernel⟩]
theorem kds_mem {kd : Str} (h : PyData.strOk kd = true) : (⟨kd, h⟩ : { x : Str // PyData.strOk x = true }) ∈ kdsS ↔ kd ∈ kdsL := by
  simp [kdsS, kdsL, Subtype.ext_iff]
noncomputable def wCheck (C : Addr) : DW := fun ds Q X => ∃ d : PyData, ds = [d] ∧ (∀ kd : Str, d = .str kd → PyData.strOk kd = true) ∧ ((∃ kd : Str, d = .str kd ∧ kd ∈ kdsL) → Q (.dat .none)) ∧ ((∀ kd : Str, d = .str kd → kd ∉ kdsL) → X C)
theorem ok_check_kind (T : Txt K mg A) : FnOk P w K mg base (CXE P w) 1 A.a_check_kind A.d_check_kind ["kind"] (spW K (wCheck A.x_NoKind)) := by
  refine okW T.F_check_kind sc_check_kind (fun ds Q E h => ?_) (fun cdv Ar outer s H E hr => ?_)
  · obtain ⟨_, rfl, _⟩ := h; rfl
  refine ⟨_, (pss_one (ps_if (PW.pt (pw_or (pt_not (pt_val (pe_callB (isiDK (K := K) rfl) rfl T.n_isinstance bt_isinstance (pa_cons (pv 0) (pa_cons (pe_bltn rfl T.n_str bt_str (show RelV (.ty "str") (.type "str") from rfl)) pa_nil))))) (pw_or1 (pt_cmpR (notInTK (K := K) rfl hr.units) (pv 0) (pe_glob rfl T.c_KINDS (show RelV (.ref _) (.ref _) from rfl)) rfl)))) (pss_one (ps_raise T.x_NoKind hr.hd pass_own rfl (pa_cons pe_str pa_nil))) pss_nil)), _, (sv_if (tv_or (tv_not (tv_b (bv_ev (ev_isi (by decide) (bv_var 0))))) (tv_test (bv_ev (ev_op ro_notInT (bv_var 0) (bv_ev (ev_c T.k_KINDS)))))) (sv_raise (ae_cons ev_str ae_nil) (by decide)) sv_next), ?_⟩
  rintro ds Q X ⟨d, rfl, ok, k1, k2⟩
  have no : (∀ kd : Str, d ≠ .str kd) → X A.x_NoKind := fun h => k2 fun kd e => absurd e (h kd)
  cases d with
  | str kd =>
    walk_at "d"
    refine ⟨_, eStr, ⟨kd, ok kd rfl⟩, kdsS, rfl, rfl, fun b hb => ?_⟩
    rw [kds_mem] at hb
    cases b with
    | true =>
      walk_at "d"
      exact k1 ⟨kd, rfl, hb.mp rfl⟩
    | false =>
      walk_at "d"
      refine k2 fun kd' e h => ?_
      cases e
      exact absurd (hb.mpr h) (by decide)
  | _ => exact no fun _ => by simp
noncomputable def wMeas (C : Addr) : DW := fun ds Q X => ∃ (d : PyData) (ms : List Mk) (row : List Rat) (L B W l b wd : Nat), ds = [d, .list (ms.map mk3), .list (row.map fr)] ∧ MSz L B W l b wd ms row ∧ ms ≠ [] ∧ row.length = ms.length ∧ (∀ kd : Str, d = .str kd → PyData.strOk kd = true) ∧
  (∀ kd : Str, d = .str kd → kd ∈ kdsL → Q (.dat (fr (meas kd ms row)))) ∧ ((∀ kd : Str, d = .str kd → kd ∉ kdsL) → X C)
theorem ok_measured (T : Txt K mg A) : FnOk P w K mg base (CXE P w) 6 A.a_measured A.d_measured ["kind", "marks", "row"] (spW K (wMeas A.x_NoKind)) := by
  have G_check_kind := ok_check_kind (P := P) (w := w) (base := base) T
  have G_misses_of := ok_misses_of (P := P) (w := w) (base := base) T
  have G_weighed_misses := ok_weighed_misses (P := P) (w := w) (base := base) T
  have G_greatest_of := ok_greatest_of (P := P) (w := w) (base := base) T
  have G_total_of := ok_total_of (P := P) (w := w) (base := base) T
  have G_size_of := ok_size_of (P := P) (w := w) (base := base) T
  have G_product := ok_product (P := P) (w := w) (base := base) T
  refine okW T.F_measured sc_measured (fun ds Q E h => ?_) (fun cdv Ar outer s H E hr => ?_)
  · obtain ⟨_, _, _, _, _, _, _, _, _, rfl, _⟩ := h; rfl
  refine ⟨_, (pss_cons (ps_expr (pe_call G_check_kind (hr.mono (by decide)) rfl T.m_check_kind T.F_check_kind.kp T.b_check_kind .nil pass_own (pa_cons (pv 0) pa_nil)))
      (pss_cons (ps_set (i := 3) sc_measured.nd rfl (Or.inl rfl) (pe_call G_misses_of (hr.mono (by decide)) rfl T.m_misses_of T.F_misses_of.kp T.b_misses_of .nil passE0 (pa_cons (pv 1) (pa_cons (pv 2) pa_nil))))
      (pss_cons (ps_if (pt_cmpR op_eq (pv 0) pe_str (nomark _)) (pss_one (ps_ret (pe_call G_greatest_of (hr.mono (by decide)) rfl T.m_greatest_of T.F_greatest_of.kp T.b_greatest_of .nil passE0 (pa_cons (pe_lc (cap := [none]) (NC := ["miss"]) rfl ⟨rfl, rfl, by decide +kernel, by decide +kernel, trivial, (fun _ h => nomatch h), rfl⟩ (pilK (K := K) rfl (pv 3)) (fun _ _ _ _ => (pg_name (i := 0) (show List.Nodup (["miss"] : List Str) by decide) rfl (Or.inl rfl))) (fun _ _ _ _ => pts_nil) (fun _ _ _ _ => (pe_call G_size_of (hr.mono (by decide)) rfl T.m_size_of T.F_size_of.kp T.b_size_of .nil passE0 (pa_cons (pv 0) pa_nil)))) pa_nil)))) pss_nil)
      (pss_cons (ps_set (i := 4) sc_measured.nd rfl (Or.inl rfl) (pe_call G_weighed_misses (hr.mono (by decide)) rfl T.m_weighed_misses T.F_weighed_misses.kp T.b_weighed_misses .nil passE0 (pa_cons (pv 1) (pa_cons (pv 2) pa_nil))))
      (pss_cons (ps_if (pt_cmpR op_eq (pv 0) pe_str (nomark _)) (pss_one (ps_ret (pe_call G_total_of (hr.mono (by decide)) rfl T.m_total_of T.F_total_of.kp T.b_total_of .nil passE0 (pa_cons (pe_lc (cap := [none]) (NC := ["one"]) rfl ⟨rfl, rfl, by decide +kernel, by decide +kernel, trivial, (fun _ h => nomatch h), rfl⟩ (pilK (K := K) rfl (pv 4)) (fun _ _ _ _ => (pg_name (i := 0) (show List.Nodup (["one"] : List Str) by decide) rfl (Or.inl rfl))) (fun _ _ _ _ => pts_nil) (fun _ _ _ _ => (pe_call G_size_of (hr.mono (by decide)) rfl T.m_size_of T.F_size_of.kp T.b_size_of .nil passE0 (pa_cons (pv 0) pa_nil)))) pa_nil)))) pss_nil)
      (pss_one (ps_ret (pe_call G_total_of (hr.mono (by decide)) rfl T.m_total_of T.F_total_of.kp T.b_total_of .nil passE0 (pa_cons (pe_lc (cap := [none, none]) (NC := ["one", "miss"]) rfl ⟨rfl, rfl, by decide +kernel, by decide +kernel, trivial, (fun _ h => nomatch h), rfl⟩ (pi_zip (K := K) rfl rfl T.n_zip (pa_cons (pv 4) (pa_cons (pv 3) pa_nil))) (fun _ _ _ _ => (pgtK (K := K) (n := 2) rfl rfl (pgs_cons (pg_name (i := 0) (show List.Nodup (["one", "miss"] : List Str) by decide) rfl (Or.inl rfl)) (pgs_cons (pg_name (i := 1) (show List.Nodup (["one", "miss"] : List Str) by decide) rfl (Or.inl rfl)) pgs_nil)))) (fun _ _ _ _ => pts_nil) (fun _ _ _ _ => (pe_call G_product (hr.mono (by decide)) rfl T.m_product T.F_product.kp T.b_product .nil passE0 (pa_cons (pv 0) (pa_cons (pv 1) pa_nil))))) pa_nil))))))))), _, (sv_seq (sv_expr (bv_ev (ev_call (av_cons (bv_var 0) av_nil))))
      (sv_seq (sv_setO 3 (ov_call0 (av_cons (bv_var 1) (av_cons (bv_var 2) av_nil))))
      (sv_seq (sv_if (tv_test (bv_ev (ev_op ro_eq (bv_var 0) (bv_ev ev_str)))) (sv_ret (bv_ev (ev_call0 (av_cons (bv_ev (ev_ov (ov_lc (ie_list (lv_var 3)) (gv_name 0) tv_yes (ev_call0 (av_cons (bv_var 0) av_nil)) (by decide) (by decide)))) av_nil)))) sv_next)
      (sv_seq (sv_setO 4 (ov_call0 (av_cons (bv_var 1) (av_cons (bv_var 2) av_nil))))
      (sv_seq (sv_if (tv_test (bv_ev (ev_op ro_eq (bv_var 0) (bv_ev ev_str)))) (sv_ret (bv_ev (ev_call0 (av_cons (bv_ev (ev_ov (ov_lc (ie_list (lv_var 4)) (gv_name 0) tv_yes (ev_call0 (av_cons (bv_var 0) av_nil)) (by decide) (by decide)))) av_nil)))) sv_next)
      (sv_ret (bv_ev (ev_call0 (av_cons (bv_ev (ev_ov (ov_lc (ie_zip (lv_var 4) (lv_var 3)) (gv_tup (gs_cons (gv_name 0) (gs_cons (gv_name 1) gs_nil))) tv_yes (ev_call0 (av_cons (bv_var 0) (av_cons (bv_var 1) av_nil))) (by decide) (by decide)))) av_nil))))))))), ?_⟩
  rintro ds Q X ⟨d, ms, row, L, B, W, l, b, wd, rfl, z, hne, hlr, ok, k, kx⟩
  have zl := z.len
  walk_at "s"
  refine ⟨d, rfl, ok, ?_, kx⟩
  rintro ⟨kd, rfl, hkd⟩
  have kq := k kd rfl hkd
  walk_at "s"
  refine ⟨ms, row, rfl, by omega, z.hOk, z.rOk, ?_⟩
  walk_at "d"
  refine ⟨frs_flat _, ?_⟩
  walk_at "s"
  have hml : (missR ms row).length = ms.length := by unfold missR; rw [List.length_zipWith]; omega
  refine ite2 (fun c => ?_) (fun c => ?_)
  · have ek : kd = "far" := c
    subst ek
    have e : meas "far" ms row = maxR ((missR ms row).map absR) := by unfold meas; rw [if_pos rfl]
    rw [e] at kq
    walk_at "d"
    refine lc_map fr fr (fun q : Rat => [absR q]) (missR ms row) (by omega) (fun Q h => h) (fun q hq N acc hN => ?_) ?_
    · walk_at "d"
      refine ⟨q, rfl, ?_⟩
      walk_at "d"
      exact hN
    rw [flat_single]
    refine ⟨(missR ms row).map absR, rfl, fun q hq => ?_, fun h0 => ?_, fun q hq hle => ?_⟩
    · obtain ⟨x, hx, rfl⟩ := List.mem_map.mp hq
      have := z.missOk x hx
      exact ⟨by rw [absR_num]; have := this.n; unfold Wee at *; omega, this.d⟩
    · have := congrArg List.length h0
      rw [List.length_map, hml] at this
      exact absurd (List.length_eq_zero_iff.mp this) hne
    · have hq0 : 0 ≤ q := by
        obtain ⟨x, _, rfl⟩ := List.mem_map.mp hq
        exact absR_nn x
      rw [maxR_eq hq0 (.inr hq) hle]
      walk_at "d"
      exact kq
  have nk : kd ≠ "far" := c
  walk_at "s"
  refine ⟨ms, row, L, B, W, l, b, wd, rfl, z, ?_⟩
  walk_at "d"
  refine ⟨frs_flat _, ?_⟩
  walk_at "s"
  have hwl := wmissR_len (ms := ms) (row := row)
  refine ite2 (fun c => ?_) (fun c => ?_)
  · have ek : kd = "sum" := c
    subst ek
    have e : meas "sum" ms row = tot ((wmissR ms row).map absR) := by unfold meas; rw [if_neg (by decide), if_pos rfl]
    rw [e] at kq
    walk_at "d"
    refine lc_map fr fr (fun q : Rat => [absR q]) (wmissR ms row) (by omega) (fun Q h => h) (fun q hq N acc hN => ?_) ?_
    · walk_at "d"
      refine ⟨q, rfl, ?_⟩
      walk_at "d"
      exact hN
    rw [flat_single]
    refine ⟨(wmissR ms row).map absR, rfl, fun q hq => ?_, z.sumOk, ?_⟩
    · obtain ⟨x, hx, rfl⟩ := List.mem_map.mp hq
      have := z.wmissOk x hx
      exact ⟨by rw [absR_num]; have := this.n; unfold Wee at *; omega, this.d⟩
    · walk_at "d"
      exact kq
  · have nk2 : kd ≠ "sum" := c
    have e : meas kd ms row = tot (sqR ms row) := by unfold meas; rw [if_neg nk, if_neg nk2]
    rw [e] at kq
    walk_at "d"
    refine lc_map (fun p : Rat × Rat => PyData.tuple [fr p.1, fr p.2]) fr (fun p : Rat × Rat => [p.1 * p.2]) ((wmissR ms row).zip (missR ms row)) (by rw [List.length_zip]; omega) (fun Q h => by
        walk_at "d"
        rw [pairD_map]; exact h) (fun p hp N acc hN => ?_) ?_
    · have := zip_all z.wmissOk z.missOk p hp
      walk_at "d"
      refine ⟨p.1, p.2, rfl, this.1, this.2, ?_⟩
      walk_at "d"
      exact hN
    rw [flat_single, zip_map (fun a b : Rat => a * b)]
    refine ⟨sqR ms row, rfl, z.sqOk, z.sqsOk, ?_⟩
    walk_at "d"
    exact kq
end
noncomputable abbrev Pr := Rat × Rat
noncomputable def pr2 (z : Pr) : PyData := .tuple [fr z.1, fr z.2]
theorem prs_flat : ∀ zs : List Pr, flatDs (zs.map pr2) = true
  | [] => rfl
  | z :: zs => by
    have := prs_flat zs
    simp only [List.map_cons, flatDs, pr2, flatD, fr, this, Bool.and_self]
noncomputable def UpP (zs : List Pr) : Prop := zs.Pairwise fun a b => a.1 ≤ b.1
noncomputable def cntP (zs : List Pr) (p : Rat) : Nat := (zs.flatMap fun z => if z.1 < p then [z] else []).length
theorem cntP_app (a b : List Pr) (p : Rat) : cntP (a ++ b) p = cntP a p + cntP b p := by
  unfold cntP
  rw [List.flatMap_append, List.length_append]
theorem cntP_all {a : List Pr} {p : Rat} (h : ∀ z ∈ a, z.1 < p) : cntP a p = a.length := by
  induction a with
  | nil => rfl
  | cons m a ih =>
    have e : cntP (m :: a) p = cntP [m] p + cntP a p := cntP_app [m] a p
    have e1 : cntP [m] p = 1 := by unfold cntP; simp [h m List.mem_cons_self]
    rw [e, e1, ih fun x hx => h x (List.mem_cons_of_mem _ hx), List.length_cons]
    omega
theorem cntP_none {a : List Pr} {p : Rat} (h : ∀ z ∈ a, ¬ z.1 < p) : cntP a p = 0 := by
  induction a with
  | nil => rfl
  | cons m a ih =>
    have e : cntP (m :: a) p = cntP [m] p + cntP a p := cntP_app [m] a p
    have e1 : cntP [m] p = 0 := by unfold cntP; simp [h m List.mem_cons_self]
    rw [e, e1, ih fun x hx => h x (List.mem_cons_of_mem _ hx)]
theorem upP_split (p : Rat) : ∀ {zs : List Pr}, UpP zs → ∃ a b, zs = a ++ b ∧ (∀ z ∈ a, z.1 < p) ∧ (∀ z ∈ b, ¬ z.1 < p)
  | [], _ => ⟨[], [], rfl, (fun _ h => nomatch h), fun _ h => nomatch h⟩
  | m :: ms, h => by
    have h1 := List.pairwise_cons.mp h
    by_cases c : m.1 < p
    · obtain ⟨a, b, e, h2, h3⟩ := upP_split p h1.2
      refine ⟨m :: a, b, by rw [e]; rfl, fun x hx => ?_, h3⟩
      rcases List.mem_cons.mp hx with rfl | hx
      · exact c
      · exact h2 x hx
    · refine ⟨[], m :: ms, rfl, (fun _ h => nomatch h), fun x hx => ?_⟩
      rcases List.mem_cons.mp hx with rfl | hx
      · exact c
      · have := h1.1 x hx
        grind
theorem upP_ins {zs : List Pr} (h : UpP zs) (z : Pr) : cntP zs z.1 ≤ zs.length ∧ UpP (zs.take (cntP zs z.1) ++ z :: zs.drop (cntP zs z.1)) ∧ (zs.take (cntP zs z.1) ++ z :: zs.drop (cntP zs z.1)).Perm (zs ++ [z]) := by
  obtain ⟨a, b, e, h1, h2⟩ := upP_split z.1 h
  have ec : cntP zs z.1 = a.length := by rw [e, cntP_app, cntP_all h1, cntP_none h2]; rfl
  have et : zs.take a.length = a := by rw [e]; simp
  have ed : zs.drop a.length = b := by rw [e]; simp
  rw [ec, et, ed]
  refine ⟨by rw [e, List.length_append]; omega, ?_, ?_⟩
  · rw [e] at h
    have h3 := List.pairwise_append.mp h
    refine List.pairwise_append.mpr ⟨h3.1, List.pairwise_cons.mpr ⟨fun y hy => Rat.not_lt.mp (h2 y hy), h3.2.1⟩, fun x hx y hy => ?_⟩
    rcases List.mem_cons.mp hy with rfl | hy
    · have := h1 x hx; grind
    · exact h3.2.2 x hx y hy
  · rw [e, List.append_assoc]
    exact List.Perm.append_left a (List.perm_append_comm (l₁ := [z]) (l₂ := b))
theorem tot_perm {a b : List Rat} (h : a.Perm b) : tot a = tot b := by
  induction h with
  | nil => rfl
  | cons x _ ih => simp only [tot, ih]
  | swap x y l => simp only [tot]; grind
  | trans _ _ i1 i2 => rw [i1, i2]
noncomputable def fsum (p : Pr → Bool) (zs : List Pr) : Rat := tot ((zs.filter p).map (·.2))
theorem fsum_app (p : Pr → Bool) (a b : List Pr) : fsum p (a ++ b) = fsum p a + fsum p b := by
  unfold fsum
  rw [List.filter_append, List.map_append, tot_app]
theorem fsum_all {p : Pr → Bool} {a : List Pr} (h : ∀ z ∈ a, p z = true) : fsum p a = tot (a.map (·.2)) := by
  unfold fsum
  rw [List.filter_eq_self.mpr h]
theorem fsum_none {p : Pr → Bool} {a : List Pr} (h : ∀ z ∈ a, ¬ p z = true) : fsum p a = 0 := by
  unfold fsum
  rw [List.filter_eq_nil_iff.mpr h]; rfl
theorem tot_nn : ∀ {a : List Rat}, (∀ q ∈ a, 0 ≤ q) → 0 ≤ tot a
  | [], _ => Rat.le_refl
  | x :: a, h => by
    have h1 := h x List.mem_cons_self
    have h2 := tot_nn (a := a) fun q hq => h q (List.mem_cons_of_mem _ hq)
    simp only [tot]
    grind
theorem fsum_nn {p : Pr → Bool} {a : List Pr} (h : ∀ z ∈ a, 0 ≤ z.2) : 0 ≤ fsum p a := tot_nn fun q hq => by
  obtain ⟨z, hz, rfl⟩ := List.mem_map.mp hq
  exact h z (List.mem_filter.mp hz).1
theorem fsum_le {p : Pr → Bool} : ∀ {a : List Pr}, (∀ z ∈ a, 0 ≤ z.2) → fsum p a ≤ tot (a.map (·.2))
  | [], _ => Rat.le_refl
  | x :: a, h => by
    have h1 := h x List.mem_cons_self
    have h2 := fsum_le (p := p) (a := a) fun q hq => h q (List.mem_cons_of_mem _ hq)
    have e : fsum p (x :: a) = fsum p [x] + fsum p a := fsum_app p [x] a
    have e1 : fsum p [x] ≤ x.2 := by
      unfold fsum
      by_cases c : p x = true
      · simp [c, tot]; grind
      · simp [c, tot]; exact h1
    rw [e]
    simp only [List.map_cons, tot]
    grind
theorem fsum_perm {p : Pr → Bool} {a b : List Pr} (h : a.Perm b) : fsum p a = fsum p b := tot_perm ((h.filter p).map _)
structure Mid (zs : List Pr) (x : Rat) : Prop where
  mem : ∃ z ∈ zs, z.1 = x
  lo : fsum (fun z => decide (z.1 < x)) zs + fsum (fun z => decide (z.1 < x)) zs < tot (zs.map (·.2))
  hi : tot (zs.map (·.2)) ≤ fsum (fun z => decide (z.1 ≤ x)) zs + fsum (fun z => decide (z.1 ≤ x)) zs
theorem mid_of {zs ps : List Pr} {s : Nat} (up : UpP ps) (pm : ps.Perm zs) (nn : ∀ z ∈ zs, 0 ≤ z.2) (hs : s < ps.length) (h1 : tot ((ps.take s).map (·.2)) + tot ((ps.take s).map (·.2)) < tot (zs.map (·.2)))
    (h2 : tot (zs.map (·.2)) ≤ tot ((ps.take (s + 1)).map (·.2)) + tot ((ps.take (s + 1)).map (·.2))) : Mid zs ps[s].1 := by
  have np : ∀ z ∈ ps, 0 ≤ z.2 := fun z hz => nn z (pm.mem_iff.mp hz)
  refine ⟨⟨ps[s], pm.mem_iff.mp (List.getElem_mem hs), rfl⟩, ?_, ?_⟩
  · rw [← fsum_perm pm]
    have e := fsum_app (fun z => decide (z.1 < ps[s].1)) (ps.take s) (ps.drop s)
    rw [List.take_append_drop] at e
    have e0 : fsum (fun z => decide (z.1 < ps[s].1)) (ps.drop s) = 0 := fsum_none fun z hz => by
      rw [List.drop_eq_getElem_cons hs] at hz
      have hp : UpP (ps.drop s) := List.Pairwise.drop up
      rw [List.drop_eq_getElem_cons hs] at hp
      rcases List.mem_cons.mp hz with rfl | hz
      · simp
      · have := (List.pairwise_cons.mp hp).1 z hz
        simpa using Rat.not_lt.mpr this
    have e1 := fsum_le (p := fun z => decide (z.1 < ps[s].1)) (a := ps.take s) fun z hz => np z (List.mem_of_mem_take hz)
    grind
  · rw [← fsum_perm pm]
    have e := fsum_app (fun z => decide (z.1 ≤ ps[s].1)) (ps.take (s + 1)) (ps.drop (s + 1))
    rw [List.take_append_drop] at e
    have e0 := fsum_nn (p := fun z => decide (z.1 ≤ ps[s].1)) (a := ps.drop (s + 1)) fun z hz => np z (List.mem_of_mem_drop hz)
    have e1 : fsum (fun z => decide (z.1 ≤ ps[s].1)) (ps.take (s + 1)) = tot ((ps.take (s + 1)).map (·.2)) := fsum_all fun z hz => by
      obtain ⟨i, hi, rfl⟩ := List.getElem_of_mem hz
      rw [List.getElem_take]
      rw [List.length_take] at hi
      by_cases c : i = s
      · subst c; simp
      · have := List.pairwise_iff_getElem.mp up i s (by omega) hs (by omega)
        simpa using this
    grind
section
variable {P : Program} {w : World} {K : PySem.W.Frag} {mg : Str → Option Value} {base : Heap} {A : Adr}
theorem atI_p2 {ps : List Pr} {k : Int} {j : Nat} (e : k = (j : Int)) (h : j < ps.length) : atI (ps.map pr2) k = some (pr2 ps[j]) := by
  rw [atI_mk (xs := ps) pr2 (by omega) (by omega), e, Int.toNat_natCast]
  simp [h]
noncomputable def wOrder : DW := fun ds Q _ => ∃ qs vs : List Rat, ds = [.list (qs.map fr), .list (vs.map fr)] ∧ qs.length = vs.length ∧ qs.length ≤ 60 ∧ (∀ q ∈ qs, Ok q) ∧ ∀ ps : List Pr, UpP ps → ps.Perm (qs.zip vs) → Q (.own (ps.map pr2))
theorem ok_in_order (T : Txt K mg A) : FnOk P w K mg base (CXE P w) 2 A.a_in_order A.d_in_order ["some", "weights"] (spW K wOrder) := by
  have G_is_less := ok_is_less (P := P) (w := w) (base := base) T
  refine okW T.F_in_order sc_in_order (fun ds Q E h => ?_) (fun cdv Ar outer s H E hr => ?_)
  · obtain ⟨_, _, rfl, _⟩ := h; rfl
  refine ⟨_, (pss_cons (ps_set (i := 2) sc_in_order.nd rfl (Or.inl rfl) (pe_lst pa_nil))
      (pss_cons (ps_for PassesOwn.leaving rfl (pi_zip (K := K) rfl rfl T.n_zip (pa_cons (pv 0) (pa_cons (pv 1) pa_nil))) (pgtK (K := K) (n := 2) rfl rfl (pgs_cons (pg_name (i := 3) sc_in_order.nd rfl (Or.inr rfl)) (pgs_cons (pg_name (i := 4) sc_in_order.nd rfl (Or.inl rfl)) pgs_nil)))
        (pss_cons (ps_set (i := 5) sc_in_order.nd rfl (Or.inl rfl) (pe_callB (lenK (K := K) rfl) rfl T.n_len PySem.boot_len (pa_cons (pe_lc (cap := [none, some 3]) (NC := ["pair", "one"]) rfl ⟨rfl, rfl, by decide +kernel, by decide +kernel, ⟨⟨_, rfl, rfl, rfl, rfl, rfl⟩, trivial⟩, (List.forall_mem_cons.2 ⟨rfl, (fun _ h => nomatch h)⟩), rfl⟩ (pilK (K := K) rfl (pv 2)) (fun _ _ _ _ => (pg_name (i := 0) (show List.Nodup (["pair", "one"] : List Str) by decide) rfl (Or.inl rfl))) (fun _ _ _ _ => (pts_one (pt_val (pe_call G_is_less (hr.mono (by decide)) rfl T.m_is_less T.F_is_less.kp T.b_is_less .nil passE0 (pa_cons (pe_ix (ixtK (K := K) rfl) (pv 0) pe_int (fun _ _ => rfl)) (pa_cons (pv 1) pa_nil)))))) (fun _ _ _ _ => (pv 0))) pa_nil)))
      (pss_one (ps_expr (pe_bm PySem.F.plainAttrs_list PySem.F.slot_list_insert PySem.F.type_list_insert mt_insert (pv 2) (pa_cons (pv 5) (pa_cons (pe_tup (pa_cons (pv 3) (pa_cons (pv 4) pa_nil))) pa_nil)))))))
      (pss_one (ps_ret (pv 2))))), _, (sv_seq (sv_setO 2 (ov_lst ae_nil (by decide)))
      (sv_seq (sv_for (is_zip (ev_var 0) (ev_var 1)) (gv_tup (gs_cons (gv_name 3) (gs_cons (gv_name 4) gs_nil)))
        (sv_seq (sv_asg (ev_cb rb_len (av_cons (bv_ev (ev_ov (ov_lc (ie_list (lv_var 2)) (gv_name 0) (tv_b (bv_ev (ev_call0 (av_cons (bv_ev (ev_ixk 0 (ev_var 0))) (av_cons (bv_var 1) av_nil))))) (ev_var 0) (by decide) (by decide)))) av_nil)) (gv_name 5))
      (sv_ins 2 (bv_var 5) (ev_tup (ae_cons (ev_var 3) (ae_cons (ev_var 4) ae_nil)) (by decide)))))
      (sv_retV 2))), ?_⟩
  rintro ds Q X ⟨qs, vs, rfl, hl, n60, ho, k⟩
  have zl : (qs.zip vs).length ≤ 60 := by rw [List.length_zip]; omega
  have hz : ∀ z ∈ qs.zip vs, Ok z.1 := fun z h => ho _ (List.of_mem_zip (a := z.1) (b := z.2) h).1
  walk_at "s"
  refine seq_mk (for_map (fun z : Pr => PyData.tuple [fr z.1, fr z.2]) (qs.zip vs) (fun Q h => by
      walk_at "d"
      rw [pairD_map]; exact h)
    (fun i δ => ∃ (ps : List Pr) (t1 t2 t3 : Option Sl), δ = [some (.dat (.list (qs.map fr))), some (.dat (.list (vs.map fr))), some (.own (ps.map pr2)), t1, t2, t3] ∧ UpP ps ∧ ps.Perm ((qs.zip vs).take i))
    ⟨[], _, _, _, rfl, List.Pairwise.nil, .nil⟩ ?_ ?_)
  · rintro i z δ hi ⟨ps, t1, t2, t3, rfl, up, pm⟩
    have pl : ps.length ≤ 60 := by have := pm.length_eq; rw [List.length_take] at this; omega
    have po : ∀ x ∈ ps, Ok x.1 := fun x hx => hz x (List.mem_of_mem_take (pm.mem_iff.mp hx))
    have oz := hz z (List.mem_of_getElem? hi)
    obtain ⟨h1, h2, h3⟩ := upP_ins up z
    have pm2 : (ps.take (cntP ps z.1) ++ z :: ps.drop (cntP ps z.1)).Perm ((qs.zip vs).take (i + 1)) := by
      rw [take_snoc hi]
      exact h3.trans (pm.append_right [z])
    walk_at "s"
    refine lc_map pr2 pr2 (fun x : Pr => if x.1 < z.1 then [x] else []) ps (by omega) (fun Q h => h) (fun x h N acc hN => ?_) ?_
    · walk_at "d"
      refine ⟨x.1, z.1, rfl, po x h, oz, ?_⟩
      walk_at "d"
      by_cases c : x.1 < z.1
      · rw [if_pos c]
        rw [if_pos c] at hN
        exact hN
      · rw [if_neg c]
        rw [if_neg c] at hN
        simpa using hN
    have ec : ((ps.flatMap fun x : Pr => if x.1 < z.1 then [x] else []).map pr2).length = cntP ps z.1 := by rw [List.length_map]; rfl
    generalize (ps.flatMap fun x : Pr => if x.1 < z.1 then [x] else []) = L at *
    walk_at "d"
    rw [List.length_map] at ec
    rw [ec]
    have ef : List.take (cntP ps z.1) (ps.map pr2) ++ PyData.tuple [fr z.1, fr z.2] :: List.drop (cntP ps z.1) (ps.map pr2) = (ps.take (cntP ps z.1) ++ z :: ps.drop (cntP ps z.1)).map pr2 := by
      rw [List.map_append, List.map_cons, List.map_take, List.map_drop]
      rfl
    rw [Int.toNat_natCast, ef]
    exact ⟨by omega, by omega, by omega, _, _, _, _, rfl, h2, pm2⟩
  · rintro δ ⟨ps, t1, t2, t3, rfl, up, pm⟩
    walk_at "d"
    rw [List.take_of_length_le (Nat.le_refl _)] at pm
    exact k ps up pm
theorem tot_pos : ∀ {a : List Rat}, a ≠ [] → (∀ q ∈ a, 0 < q) → 0 < tot a
  | [], h, _ => absurd rfl h
  | x :: a, _, h => by
    have h1 := h x List.mem_cons_self
    have h2 := tot_nn (a := a) fun q hq => by have := h q (List.mem_cons_of_mem _ hq); grind
    simp only [tot]
    grind
noncomputable def wMiddle : DW := fun ds Q _ => ∃ (qs vs : List Rat) (L : Nat), ds = [.list (qs.map fr), .list (vs.map fr)] ∧ 0 < L ∧ L ≤ 10 ^ 120 ∧ qs.length = vs.length ∧ 1 ≤ qs.length ∧ qs.length ≤ 60 ∧ (∀ q ∈ qs, Ok q) ∧ (∀ v ∈ vs, 0 < v ∧ Cm L (10 ^ 220) v) ∧ ∀ x : Rat, Mid (qs.zip vs) x → Q (.dat (fr x))
theorem ok_middle_of (T : Txt K mg A) : FnOk P w K mg base (CXE P w) 4 A.a_middle_of A.d_middle_of ["some", "weights"] (spW K wMiddle) := by
  have G_is_less := ok_is_less (P := P) (w := w) (base := base) T
  have G_in_order := ok_in_order (P := P) (w := w) (base := base) T
  have G_total_of := ok_total_of (P := P) (w := w) (base := base) T
  have G_plus := ok_plus (P := P) (w := w) (base := base) T
  refine okW T.F_middle_of sc_middle_of (fun ds Q E h => ?_) (fun cdv Ar outer s H E hr => ?_)
  · obtain ⟨_, _, _, rfl, _⟩ := h; rfl
  refine ⟨_, (pss_cons (ps_set (i := 2) sc_middle_of.nd rfl (Or.inl rfl) (pe_call G_in_order (hr.mono (by decide)) rfl T.m_in_order T.F_in_order.kp T.b_in_order .nil passE0 (pa_cons (pv 0) (pa_cons (pv 1) pa_nil))))
      (pss_cons (ps_set (i := 3) sc_middle_of.nd rfl (Or.inl rfl) (pe_call G_total_of (hr.mono (by decide)) rfl T.m_total_of T.F_total_of.kp T.b_total_of .nil passE0 (pa_cons (pv 1) pa_nil)))
      (pss_cons (ps_set (i := 4) sc_middle_of.nd rfl (Or.inl rfl) pe_int)
      (pss_cons (ps_set (i := 5) sc_middle_of.nd rfl (Or.inl rfl) (pe_ix (ixtK (K := K) rfl) (pe_ix (ixlK (K := K) rfl) (pv 2) pe_int (fun _ _ => rfl)) pe_int (fun _ _ => rfl)))
      (pss_cons (ps_while PassesOwn.leaving (pt_val (pe_call G_is_less (hr.mono (by decide)) rfl T.m_is_less T.F_is_less.kp T.b_is_less .nil passE0 (pa_cons (pe_call G_plus (hr.mono (by decide)) rfl T.m_plus T.F_plus.kp T.b_plus .nil passE0 (pa_cons (pv 5) (pa_cons (pv 5) pa_nil))) (pa_cons (pv 3) pa_nil)))) (pss_cons (ps_set (i := 4) sc_middle_of.nd rfl (Or.inl rfl) (pe_op op_add (pv 4) pe_int))
      (pss_one (ps_set (i := 5) sc_middle_of.nd rfl (Or.inl rfl) (pe_call G_plus (hr.mono (by decide)) rfl T.m_plus T.F_plus.kp T.b_plus .nil passE0 (pa_cons (pv 5) (pa_cons (pe_ix (ixtK (K := K) rfl) (pe_ix (ixlK (K := K) rfl) (pv 2) (pv 4) (fun _ _ => rfl)) pe_int (fun _ _ => rfl)) pa_nil)))))))
      (pss_one (ps_ret (pe_ix (ixtK (K := K) rfl) (pe_ix (ixlK (K := K) rfl) (pv 2) (pv 4) (fun _ _ => rfl)) pe_int (fun _ _ => rfl))))))))), _, (sv_seq (sv_setO 2 (ov_call0 (av_cons (bv_var 0) (av_cons (bv_var 1) av_nil))))
      (sv_seq (sv_asg (ev_call0 (av_cons (bv_var 1) av_nil)) (gv_name 3))
      (sv_seq (sv_asg ev_int (gv_name 4))
      (sv_seq (sv_asg (ev_ixk 1 (ev_ixl (lv_var 2) (bv_ev ev_int))) (gv_name 5))
      (sv_seq (sv_while (tv_b (bv_ev (ev_call0 (av_cons (bv_ev (ev_call0 (av_cons (bv_var 5) (av_cons (bv_var 5) av_nil)))) (av_cons (bv_var 3) av_nil))))) (sv_seq (sv_asg (ev_op ro_i0 (bv_var 4) (bv_ev ev_int)) (gv_name 4))
      (sv_asg (ev_call0 (av_cons (bv_var 5) (av_cons (bv_ev (ev_ixk 1 (ev_ixl (lv_var 2) (bv_var 4)))) av_nil))) (gv_name 5))))
      (sv_ret (bv_ev (ev_ixk 0 (ev_ixl (lv_var 2) (bv_var 4)))))))))), ?_⟩
  rintro ds Q X ⟨qs, vs, L, rfl, L0, L1, hl, n1, n60, ho, hv, k⟩
  have cdg : ∀ {l : List Rat}, l.length ≤ 60 → (∀ v ∈ l, Cm L (10 ^ 220) v) → Dg 343 (tot l) := fun {l} h1 h2 => by
    have h := Cm.tot (qs := l) (L := L) (B := 10 ^ 220) h2
    refine h.dg L0 (l := 120) L1 (b := 222) ?_
    exact Nat.le_trans (Nat.mul_le_mul_right _ h1) (by decide +kernel)
  walk_at "s"
  refine ⟨qs, vs, rfl, hl, n60, ho, fun ps up pm => ?_⟩
  have pl : ps.length = qs.length := by rw [pm.length_eq, List.length_zip]; omega
  have zs2 : (qs.zip vs).map (·.2) = vs := List.map_snd_zip (by omega)
  have p2 : (ps.map (·.2)).Perm vs := by rw [← zs2]; exact pm.map _
  have pv : ∀ v ∈ ps.map (·.2), 0 < v ∧ Cm L (10 ^ 220) v := fun v h => hv v (p2.mem_iff.mp h)
  have sdg : ∀ s, Dg 343 (tot ((ps.take s).map (·.2))) := fun s => cdg (by rw [List.length_map, List.length_take]; omega) fun v h => by
    rw [List.map_take] at h
    exact (pv v (List.mem_of_mem_take h)).2
  have wdg : Dg 343 (tot vs) := cdg (by omega) fun v h => (hv v h).2
  have wpos : 0 < tot vs := tot_pos (fun e => by rw [e, List.length_nil] at hl; omega) fun v h => (hv v h).1
  walk_at "d"
  refine ⟨prs_flat _, ?_⟩
  walk_at "s"
  refine ⟨vs, rfl, fun v h => dgOk ((hv v h).2.dg L0 (l := 120) L1 (b := 220) (Nat.le_refl _)) (by decide), fun i => dgOk (cdg (by rw [List.length_take]; omega) fun v h => (hv v (List.mem_of_mem_take h)).2) (by decide), ?_⟩
  walk_at "s"
  walk_at "s"
  refine ⟨_, atI_p2 (j := 0) rfl (by omega), ?_⟩
  walk_at "s"
  have s1 : tot ((ps.take 1).map (·.2)) = ps[0].2 := by
    rw [take_snoc (List.getElem?_eq_getElem (show 0 < ps.length by omega))]
    simp [tot, Rat.add_zero]
  refine ⟨fun m δ => ∃ s : Nat, s < ps.length ∧ m = ps.length - s ∧ δ = [some (.dat (.list (qs.map fr))), some (.dat (.list (vs.map fr))), some (.own (ps.map pr2)), some (.dat (fr (tot vs))), some (.dat (.int (s : Int))), some (.dat (fr (tot ((ps.take (s + 1)).map (·.2)))))] ∧ tot ((ps.take s).map (·.2)) + tot ((ps.take s).map (·.2)) < tot vs, ⟨_, 0, by omega, rfl, by rw [s1]; rfl, by simpa [tot, Rat.add_zero] using wpos⟩, ?_⟩
  rintro m δ ⟨s, hs, rfl, rfl, hlt⟩
  have o1 := dgOk (sdg (s + 1)) (by decide)
  have d2 : Dg 687 (tot ((ps.take (s + 1)).map (·.2)) + tot ((ps.take (s + 1)).map (·.2))) := (sdg (s + 1)).add (sdg (s + 1))
  walk_at "d"
  refine ⟨_, _, rfl, o1, o1, ?_⟩
  walk_at "d"
  refine ⟨_, _, rfl, dgOk d2 (by decide), dgOk wdg (by decide), ?_⟩
  walk_at "d"
  refine ite2 (fun c => ?_) (fun c => ?_)
  · have hs2 : s + 1 < ps.length := Decidable.not_not.mp fun z => by
      rw [List.take_of_length_le (by omega), tot_perm p2] at c
      grind
    walk_at "s"
    refine ⟨_, atI_p2 (j := s + 1) (by omega) hs2, ?_⟩
    have ov : Ok ps[s + 1].2 := dgOk ((pv _ (List.mem_map.mpr ⟨_, List.getElem_mem hs2, rfl⟩)).2.dg L0 (l := 120) L1 (b := 220) (Nat.le_refl _)) (by decide)
    refine ⟨_, _, rfl, o1, ov, ?_⟩
    walk_at "d"
    refine ⟨ps.length - (s + 1), by omega, s + 1, hs2, rfl, ?_, c⟩
    rw [take_snoc (List.getElem?_eq_getElem hs2), List.map_append, tot_app]
    simp [tot, Rat.add_zero]
  · walk_at "d"
    refine ⟨_, atI_p2 (j := s) rfl hs, ?_⟩
    refine k _ (mid_of up pm (fun z hz => ?_) hs ?_ ?_)
    · have := (hv z.2 (List.of_mem_zip (a := z.1) (b := z.2) hz).2).1
      grind
    · rw [zs2]; exact hlt
    · rw [zs2]; exact Rat.not_lt.mp c
end
noncomputable def cst (zs : List Pr) (b : Rat) : Rat := tot (zs.map fun z => z.2 * absR (z.1 - b))
theorem fsum_cons (p : Pr → Bool) (z : Pr) (zs : List Pr) : fsum p (z :: zs) = (if p z = true then z.2 else 0) + fsum p zs := by
  have e : fsum p (z :: zs) = fsum p [z] + fsum p zs := fsum_app p [z] zs
  rw [e]
  by_cases c : p z = true
  · rw [if_pos c]; simp [fsum, c, tot, Rat.add_zero]
  · rw [if_neg c]; simp [fsum, c, tot]
theorem cst_up {x b : Rat} (hxb : x ≤ b) : ∀ {zs : List Pr}, (∀ z ∈ zs, 0 ≤ z.2) → cst zs x + (b - x) * (fsum (fun z => decide (z.1 ≤ x)) zs + fsum (fun z => decide (z.1 ≤ x)) zs - tot (zs.map (·.2))) ≤ cst zs b
  | [], _ => by simp [cst, fsum, tot]; grind
  | z :: zs, h => by
    have ih := cst_up hxb (zs := zs) fun y hy => h y (List.mem_cons_of_mem _ hy)
    have hz := h z List.mem_cons_self
    have e1 : ∀ t, cst (z :: zs) t = z.2 * absR (z.1 - t) + cst zs t := fun t => rfl
    rw [e1, e1, fsum_cons, List.map_cons, tot]
    generalize fsum (fun z => decide (z.1 ≤ x)) zs = F at *
    generalize tot (zs.map (·.2)) = W at *
    by_cases c : z.1 ≤ x
    · rw [if_pos (by simpa using c), absR_neg (show z.1 - x ≤ 0 by grind), absR_neg (show z.1 - b ≤ 0 by grind)]
      grind
    · rw [if_neg (by simpa using c), absR_pos (show 0 ≤ z.1 - x by grind)]
      have h1 : z.1 - b ≤ absR (z.1 - b) := by rcases absR_cases (z.1 - b) with ⟨_, e⟩ | ⟨_, e⟩ <;> rw [e] <;> grind
      have h2 := Rat.mul_nonneg hz (show 0 ≤ absR (z.1 - b) - (z.1 - b) by grind)
      grind
theorem cst_down {x b : Rat} (hxb : b ≤ x) : ∀ {zs : List Pr}, (∀ z ∈ zs, 0 ≤ z.2) → cst zs x + (x - b) * (tot (zs.map (·.2)) - (fsum (fun z => decide (z.1 < x)) zs + fsum (fun z => decide (z.1 < x)) zs)) ≤ cst zs b
  | [], _ => by simp [cst, fsum, tot]; grind
  | z :: zs, h => by
    have ih := cst_down hxb (zs := zs) fun y hy => h y (List.mem_cons_of_mem _ hy)
    have hz := h z List.mem_cons_self
    have e1 : ∀ t, cst (z :: zs) t = z.2 * absR (z.1 - t) + cst zs t := fun t => rfl
    rw [e1, e1, fsum_cons, List.map_cons, tot]
    generalize fsum (fun z => decide (z.1 < x)) zs = F at *
    generalize tot (zs.map (·.2)) = W at *
    by_cases c : z.1 < x
    · rw [if_pos (by simpa using c), absR_neg (show z.1 - x ≤ 0 by grind)]
      have h1 : -(z.1 - b) ≤ absR (z.1 - b) := by rcases absR_cases (z.1 - b) with ⟨_, e⟩ | ⟨_, e⟩ <;> rw [e] <;> grind
      have h2 := Rat.mul_nonneg hz (show 0 ≤ absR (z.1 - b) + (z.1 - b) by grind)
      grind
    · rw [if_neg (by simpa using c), absR_pos (show 0 ≤ z.1 - x by grind), absR_pos (show 0 ≤ z.1 - b by grind)]
      grind
theorem mid_least {zs : List Pr} {x : Rat} (nn : ∀ z ∈ zs, 0 ≤ z.2) (M : Mid zs x) (b : Rat) : cst zs x ≤ cst zs b := by
  rcases Rat.le_total (a := x) (b := b) with h | h
  · have h1 := cst_up h nn
    have h2 := Rat.mul_nonneg (show 0 ≤ b - x by grind) (show 0 ≤ fsum (fun z => decide (z.1 ≤ x)) zs + fsum (fun z => decide (z.1 ≤ x)) zs - tot (zs.map (·.2)) by have := M.hi; grind)
    grind
  · have h1 := cst_down h nn
    have h2 := Rat.mul_nonneg (show 0 ≤ x - b by grind) (show 0 ≤ tot (zs.map (·.2)) - (fsum (fun z => decide (z.1 < x)) zs + fsum (fun z => decide (z.1 < x)) zs) by have := M.lo; grind)
    grind
theorem absR_mul (a b : Rat) : absR (a * b) = absR a * absR b := by
  rcases absR_cases a with ⟨ha, ea⟩ | ⟨ha, ea⟩ <;> rcases absR_cases b with ⟨hb, eb⟩ | ⟨hb, eb⟩ <;> rw [ea, eb]
  · exact absR_pos (Rat.mul_nonneg ha hb)
  · rw [absR_neg (by have := Rat.mul_nonneg ha (show 0 ≤ -b by grind); grind)]; grind
  · rw [absR_neg (by have := Rat.mul_nonneg (show 0 ≤ -a by grind) hb; grind)]; grind
  · rw [absR_pos (by have := Rat.mul_nonneg (show 0 ≤ -a by grind) (show 0 ≤ -b by grind); grind)]; grind
theorem sorted_ex : ∀ zs : List Pr, ∃ ps : List Pr, UpP ps ∧ ps.Perm zs
  | [] => ⟨[], List.Pairwise.nil, .nil⟩
  | z :: zs => by
    obtain ⟨ps, up, pm⟩ := sorted_ex zs
    obtain ⟨_, h2, h3⟩ := upP_ins up z
    exact ⟨_, h2, h3.trans ((pm.append_right [z]).trans (List.perm_append_comm (l₁ := zs) (l₂ := [z])))⟩
theorem half_step {f : Nat → Rat} {t : Rat} : ∀ {n : Nat}, f 0 < t → t ≤ f n → ∃ s, s < n ∧ f s < t ∧ t ≤ f (s + 1)
  | 0, h0, h => by grind
  | n + 1, h0, h => by
    by_cases c : t ≤ f n
    · obtain ⟨s, h1, h2, h3⟩ := half_step h0 c
      exact ⟨s, by omega, h2, h3⟩
    · exact ⟨n, by omega, Rat.not_le.mp c, h⟩
theorem mid_ex {zs : List Pr} (hne : zs ≠ []) (hp : ∀ z ∈ zs, 0 < z.2) : ∃ x, Mid zs x := by
  obtain ⟨ps, up, pm⟩ := sorted_ex zs
  have nn : ∀ z ∈ zs, 0 ≤ z.2 := fun z h => by have := hp z h; grind
  have t0 : 0 < tot (zs.map (·.2)) := tot_pos (by simpa using hne) fun q hq => by
    obtain ⟨z, hz, rfl⟩ := List.mem_map.mp hq
    exact hp z hz
  have ep : tot (ps.map (·.2)) = tot (zs.map (·.2)) := tot_perm (pm.map _)
  obtain ⟨s, h1, h2, h3⟩ := half_step (f := fun s => tot ((ps.take s).map (·.2)) + tot ((ps.take s).map (·.2))) (t := tot (zs.map (·.2))) (n := ps.length) (by simp [tot]; grind) (by rw [List.take_length, ep]; grind)
  exact ⟨_, mid_of up pm nn h1 h2 h3⟩
theorem fsum_mono {p q : Pr → Bool} (h : ∀ z, p z = true → q z = true) : ∀ {zs : List Pr}, (∀ z ∈ zs, 0 ≤ z.2) → fsum p zs ≤ fsum q zs
  | [], _ => Rat.le_refl
  | z :: zs, nn => by
    have ih := fsum_mono h (zs := zs) fun y hy => nn y (List.mem_cons_of_mem _ hy)
    have hz := nn z List.mem_cons_self
    rw [fsum_cons, fsum_cons]
    by_cases c : p z = true
    · rw [if_pos c, if_pos (h z c)]; grind
    · rw [if_neg c]
      split <;> grind
theorem mid_lt {zs : List Pr} {x y : Rat} (nn : ∀ z ∈ zs, 0 ≤ z.2) (a : Mid zs x) (b : Mid zs y) : ¬ x < y := fun c => by
  have h1 := a.hi
  have h2 := b.lo
  have h3 := fsum_mono (p := fun z : Pr => decide (z.1 ≤ x)) (q := fun z => decide (z.1 < y)) (fun z hz => by
    have := of_decide_eq_true hz
    exact decide_eq_true (by grind)) nn
  grind
theorem midP_one {zs : List Pr} {x y : Rat} (nn : ∀ z ∈ zs, 0 ≤ z.2) (a : Mid zs x) (b : Mid zs y) : x = y := by
  have h1 := mid_lt nn a b
  have h2 := mid_lt nn b a
  grind
noncomputable def midF (zs : List Pr) : Rat := Classical.epsilon (Mid zs)
theorem midF_mid {zs : List Pr} (hne : zs ≠ []) (hp : ∀ z ∈ zs, 0 < z.2) : Mid zs (midF zs) := Classical.epsilon_spec (mid_ex hne hp)
theorem midF_eq {zs : List Pr} {x : Rat} (nn : ∀ z ∈ zs, 0 ≤ z.2) (h : Mid zs x) : midF zs = x := midP_one nn (Classical.epsilon_spec ⟨x, h⟩) h
noncomputable abbrev Ln := Rat × Rat
noncomputable def rr (l : Ln) (m : Mk) : Rat := m.2.1 - (l.1 + l.2 * m.1)
noncomputable def FS (ms : List Mk) (l : Ln) : Rat := tot (ms.map fun m => (m.2.2 : Rat) * absR (rr l m))
theorem FS_cons (m : Mk) (ms : List Mk) (l : Ln) : FS (m :: ms) l = (m.2.2 : Rat) * absR (rr l m) + FS ms l := rfl
theorem lvl_mark {ms : List Mk} (hne : ms ≠ []) (hw : ∀ m ∈ ms, 1 ≤ m.2.2) (a b : Rat) : ∃ m ∈ ms, FS ms (m.2.1 - b * m.1, b) ≤ FS ms (a, b) := by
  have e : ∀ t, cst (ms.map fun m => (m.2.1 - b * m.1, (m.2.2 : Rat))) t = FS ms (t, b) := fun t => by
    unfold cst FS rr
    rw [List.map_map]
    congr 1
    refine List.map_congr_left fun m _ => ?_
    show (m.2.2 : Rat) * absR (m.2.1 - b * m.1 - t) = _
    congr 2
    grind
  have hp : ∀ z ∈ ms.map fun m => (m.2.1 - b * m.1, (m.2.2 : Rat)), 0 < z.2 := fun z hz => by
    obtain ⟨m, hm, rfl⟩ := List.mem_map.mp hz
    exact Rat.intCast_pos.mpr (by have := hw m hm; omega)
  obtain ⟨x, hx⟩ := mid_ex (by simpa using hne) hp
  obtain ⟨z, hz, ez⟩ := hx.mem
  obtain ⟨m, hm, rfl⟩ := List.mem_map.mp hz
  refine ⟨m, hm, ?_⟩
  have ez' : m.2.1 - b * m.1 = x := ez
  rw [← e, ← e, ez']
  exact mid_least (fun z hz => by have := hp z hz; grind) hx a
noncomputable def othM (ms : List Mk) (m : Mk) : List Mk := ms.filter fun o => decide (o.1 ≠ m.1)
noncomputable def slp (m o : Mk) : Pr := ((o.2.1 - m.2.1) / (o.1 - m.1), (o.2.2 : Rat) * absR (o.1 - m.1))
theorem slope_cst (m : Mk) (s : Rat) : ∀ ms : List Mk, (∀ o ∈ ms, o.1 = m.1 → o = m) → FS ms (m.2.1 - s * m.1, s) = cst ((othM ms m).map (slp m)) s
  | [], _ => rfl
  | o :: ms, h => by
    have ih := slope_cst m s ms fun x hx => h x (List.mem_cons_of_mem _ hx)
    rw [FS_cons, ih]
    unfold othM rr
    by_cases c : o.1 = m.1
    · rw [List.filter_cons_of_neg (by simpa using c)]
      have := h o List.mem_cons_self c
      subst this
      have e : o.2.1 - (o.2.1 - s * o.1 + s * o.1) = 0 := by grind
      rw [e, absR_pos Rat.le_refl]
      grind
    · rw [List.filter_cons_of_pos (by simpa using c), List.map_cons]
      show _ = (slp m o).2 * absR ((slp m o).1 - s) + cst _ s
      congr 1
      unfold slp
      dsimp only
      have d0 : o.1 - m.1 ≠ 0 := fun z => c (by grind)
      have e1 : (o.2.1 - m.2.1) / (o.1 - m.1) * (o.1 - m.1) = o.2.1 - m.2.1 := Rat.div_mul_cancel d0
      rw [Rat.mul_assoc, ← absR_mul]
      congr 2
      generalize (o.2.1 - m.2.1) / (o.1 - m.1) = t at e1 ⊢
      grind
noncomputable def lineAt (ms : List Mk) (m : Mk) : Ln := if othM ms m = [] then (m.2.1, 0) else (m.2.1 - midF ((othM ms m).map (slp m)) * m.1, midF ((othM ms m).map (slp m)))
theorem slp_pos {ms : List Mk} {m : Mk} (hw : ∀ o ∈ ms, 1 ≤ o.2.2) : ∀ z ∈ (othM ms m).map (slp m), 0 < z.2 := fun z hz => by
  obtain ⟨o, ho, rfl⟩ := List.mem_map.mp hz
  obtain ⟨h1, h2⟩ := List.mem_filter.mp ho
  have h3 : o.1 ≠ m.1 := of_decide_eq_true h2
  have w0 : (0 : Rat) < (o.2.2 : Rat) := Rat.intCast_pos.mpr (by have := hw o h1; omega)
  have a0 : 0 < absR (o.1 - m.1) := by
    rcases absR_cases (o.1 - m.1) with ⟨h, e⟩ | ⟨h, e⟩ <;> rw [e] <;> grind
  exact Rat.mul_pos w0 a0
theorem lineAt_best {ms : List Mk} {m : Mk} (hw : ∀ o ∈ ms, 1 ≤ o.2.2) (h : ∀ o ∈ ms, o.1 = m.1 → o = m) (b : Rat) : FS ms (lineAt ms m) ≤ FS ms (m.2.1 - b * m.1, b) := by
  unfold lineAt
  by_cases c : othM ms m = []
  · rw [if_pos c, slope_cst m b ms h, c]
    have e := slope_cst m 0 ms h
    rw [c, show m.2.1 - 0 * m.1 = m.2.1 by grind] at e
    rw [e]
    exact Rat.le_refl
  · rw [if_neg c, slope_cst m _ ms h, slope_cst m b ms h]
    have hp := slp_pos (m := m) hw
    exact mid_least (fun z hz => by have := hp z hz; grind) (midF_mid (by simpa using c) hp) b
noncomputable def bestG (ms : List Mk) : Ln → List Mk → Ln
  | b, [] => b
  | b, m :: A => bestG ms (if FS ms (lineAt ms m) < FS ms b then lineAt ms m else b) A
theorem bestG_le (ms : List Mk) : ∀ (b : Ln) (A : List Mk), FS ms (bestG ms b A) ≤ FS ms b ∧ ∀ m ∈ A, FS ms (bestG ms b A) ≤ FS ms (lineAt ms m)
  | b, [] => ⟨Rat.le_refl, fun _ h => nomatch h⟩
  | b, m :: A => by
    rw [bestG]
    by_cases c : FS ms (lineAt ms m) < FS ms b
    · rw [if_pos c]
      obtain ⟨h1, h2⟩ := bestG_le ms (lineAt ms m) A
      refine ⟨by grind, fun x hx => ?_⟩
      rcases List.mem_cons.mp hx with rfl | hx
      · exact h1
      · exact h2 x hx
    · rw [if_neg c]
      obtain ⟨h1, h2⟩ := bestG_le ms b A
      refine ⟨h1, fun x hx => ?_⟩
      rcases List.mem_cons.mp hx with rfl | hx
      · grind
      · exact h2 x hx
theorem bestG_mem (ms : List Mk) : ∀ (b : Ln) (A : List Mk), bestG ms b A = b ∨ ∃ m ∈ A, bestG ms b A = lineAt ms m
  | b, [] => .inl rfl
  | b, m :: A => by
    rw [bestG]
    by_cases c : FS ms (lineAt ms m) < FS ms b
    · rw [if_pos c]
      rcases bestG_mem ms (lineAt ms m) A with h | ⟨x, hx, h⟩
      · exact .inr ⟨m, List.mem_cons_self, h⟩
      · exact .inr ⟨x, List.mem_cons_of_mem _ hx, h⟩
    · rw [if_neg c]
      rcases bestG_mem ms b A with h | ⟨x, hx, h⟩
      · exact .inl h
      · exact .inr ⟨x, List.mem_cons_of_mem _ hx, h⟩
noncomputable def bestL : List Mk → Ln
  | [] => (0, 0)
  | m :: A => bestG (m :: A) (lineAt (m :: A) m) A
theorem bestL_mem {ms : List Mk} (hne : ms ≠ []) : ∃ m ∈ ms, bestL ms = lineAt ms m := by
  cases ms with
  | nil => exact absurd rfl hne
  | cons m A =>
    rcases bestG_mem (m :: A) (lineAt (m :: A) m) A with h | ⟨x, hx, h⟩
    · exact ⟨m, List.mem_cons_self, h⟩
    · exact ⟨x, List.mem_cons_of_mem _ hx, h⟩
theorem nodup_same {ms : List Mk} (nd : (ms.map (·.1)).Nodup) : ∀ m ∈ ms, ∀ o ∈ ms, o.1 = m.1 → o = m := by
  induction ms with
  | nil => intro m h; exact nomatch h
  | cons x ms ih =>
    rw [List.map_cons, List.nodup_cons] at nd
    intro m hm o ho e
    rcases List.mem_cons.mp hm with h1 | h1 <;> rcases List.mem_cons.mp ho with h2 | h2
    · rw [h1, h2]
    · exact absurd (List.mem_map.mpr ⟨o, h2, by rw [← h1]; exact e⟩) nd.1
    · exact absurd (List.mem_map.mpr ⟨m, h1, by rw [← h2]; exact e.symm⟩) nd.1
    · exact ih nd.2 m h1 o h2 e
theorem best_least {ms : List Mk} (hne : ms ≠ []) (hw : ∀ o ∈ ms, 1 ≤ o.2.2) (nd : (ms.map (·.1)).Nodup) (a b : Rat) : FS ms (bestL ms) ≤ FS ms (a, b) := by
  obtain ⟨m, hm, h1⟩ := lvl_mark hne hw a b
  have h2 := lineAt_best (m := m) hw (nodup_same nd m hm) b
  have h3 : FS ms (bestL ms) ≤ FS ms (lineAt ms m) := by
    cases ms with
    | nil => exact nomatch hm
    | cons x A =>
      obtain ⟨h4, h5⟩ := bestG_le (x :: A) (lineAt (x :: A) x) A
      rcases List.mem_cons.mp hm with rfl | hm
      · exact h4
      · exact h5 m hm
  grind
noncomputable def dv (r g : Mk → Rat) (m : Mk) : Rat := if 0 < r m then -((m.2.2 : Rat) * g m) else if r m < 0 then (m.2.2 : Rat) * g m else (m.2.2 : Rat) * absR (g m)
theorem small_step (r g : Mk → Rat) : ∀ ms : List Mk, ∃ t : Rat, 0 < t ∧ ∀ m ∈ ms, r m ≠ 0 → t * absR (g m) ≤ absR (r m)
  | [] => ⟨1, by decide, fun _ h => nomatch h⟩
  | m :: ms => by
    obtain ⟨t, t0, ht⟩ := small_step r g ms
    by_cases c : r m = 0 ∨ t * absR (g m) ≤ absR (r m)
    · refine ⟨t, t0, fun x hx h => ?_⟩
      rcases List.mem_cons.mp hx with rfl | hx
      · rcases c with c | c
        · exact absurd c h
        · exact c
      · exact ht x hx h
    · have c1 : r m ≠ 0 := fun z => c (.inl z)
      have c2 : absR (r m) < t * absR (g m) := Rat.not_le.mp fun z => c (.inr z)
      have r0 : 0 < absR (r m) := by rcases absR_cases (r m) with ⟨h, e⟩ | ⟨h, e⟩ <;> rw [e] <;> grind
      have g0 : absR (g m) ≠ 0 := fun z => by rw [z, Rat.mul_zero] at c2; grind
      have g1 : 0 < absR (g m) := by have := absR_nn (g m); grind
      have e1 : absR (r m) / absR (g m) * absR (g m) = absR (r m) := Rat.div_mul_cancel g0
      have u0 : 0 < absR (r m) / absR (g m) := by
        refine Rat.not_le.mp fun h => ?_
        have := Rat.mul_nonneg (show 0 ≤ -(absR (r m) / absR (g m)) by grind) (Rat.le_of_lt g1)
        grind
      have ut : absR (r m) / absR (g m) ≤ t := by
        refine Rat.not_lt.mp fun z => ?_
        have := Rat.mul_pos (show 0 < absR (r m) / absR (g m) - t by grind) g1
        grind
      refine ⟨absR (r m) / absR (g m), u0, fun x hx h => ?_⟩
      rcases List.mem_cons.mp hx with rfl | hx
      · rw [e1]; exact Rat.le_refl
      · have h1 := ht x hx h
        have h2 := Rat.mul_nonneg (show 0 ≤ t - absR (r m) / absR (g m) by grind) (absR_nn (g x))
        grind
theorem step_tot {r g : Mk → Rat} {t : Rat} (t0 : 0 < t) : ∀ {ms : List Mk}, (∀ m ∈ ms, r m ≠ 0 → t * absR (g m) ≤ absR (r m)) → tot (ms.map fun m => (m.2.2 : Rat) * absR (r m - t * g m)) = tot (ms.map fun m => (m.2.2 : Rat) * absR (r m)) + t * tot (ms.map (dv r g))
  | [], _ => by simp [tot, Rat.mul_zero, Rat.add_zero]
  | m :: ms, h => by
    have ih := step_tot t0 (ms := ms) fun x hx => h x (List.mem_cons_of_mem _ hx)
    have hm := h m List.mem_cons_self
    rw [List.map_cons, List.map_cons, List.map_cons, tot, tot, tot, ih]
    have key : (m.2.2 : Rat) * absR (r m - t * g m) = (m.2.2 : Rat) * absR (r m) + t * dv r g m := by
      unfold dv
      have ta : ∀ y : Rat, t * y ≤ t * absR y ∧ -(t * y) ≤ t * absR y := fun y => by
        rcases absR_cases y with ⟨h, e⟩ | ⟨h, e⟩ <;> rw [e]
        · have := Rat.mul_nonneg (Rat.le_of_lt t0) h; exact ⟨Rat.le_refl, by grind⟩
        · have := Rat.mul_nonneg (Rat.le_of_lt t0) (show 0 ≤ -y by grind); exact ⟨by grind, by grind⟩
      obtain ⟨a1, a2⟩ := ta (g m)
      by_cases c : 0 < r m
      · have h1 := hm (by grind)
        rw [absR_pos (Rat.le_of_lt c)] at h1 ⊢
        rw [if_pos c, absR_pos (by grind)]
        grind
      · by_cases c2 : r m < 0
        · have h1 := hm (by grind)
          rw [absR_neg (Rat.le_of_lt c2)] at h1 ⊢
          rw [if_neg c, if_pos c2, absR_neg (by grind)]
          grind
        · have z : r m = 0 := by grind
          rw [if_neg c, if_neg c2, z, absR_pos (q := 0) Rat.le_refl]
          have e : (0 : Rat) - t * g m = (-t) * g m := by grind
          rw [e, absR_mul, absR_neg (q := -t) (by grind)]
          grind
    rw [key]
    grind
theorem dir_nn {ms : List Mk} {l : Ln} (h : ∀ a b, FS ms l ≤ FS ms (a, b)) (da db : Rat) : 0 ≤ tot (ms.map (dv (rr l) fun m => da + db * m.1)) := by
  obtain ⟨t, t0, ht⟩ := small_step (rr l) (fun m => da + db * m.1) ms
  have e := step_tot t0 ht
  have h1 := h (l.1 + t * da) (l.2 + t * db)
  have e2 : FS ms (l.1 + t * da, l.2 + t * db) = tot (ms.map fun m => (m.2.2 : Rat) * absR (rr l m - t * (da + db * m.1))) := by
    unfold FS rr
    congr 1
    refine List.map_congr_left fun m _ => ?_
    congr 2
    grind
  have e3 : FS ms l = tot (ms.map fun m => (m.2.2 : Rat) * absR (rr l m)) := rfl
  rw [e2, e, e3] at h1
  refine Rat.not_lt.mp fun c => ?_
  have := Rat.mul_pos t0 (show 0 < -tot (ms.map (dv (rr l) fun m => da + db * m.1)) by grind)
  grind
noncomputable def fixG (r : Mk → Rat) (m : Mk) : Int := if 0 < r m then m.2.2 else -m.2.2
noncomputable def fixGS (r : Mk → Rat) : List Mk → Int
  | [] => 0
  | m :: A => fixG r m + fixGS r A
noncomputable def zerG (r : Mk → Rat) : List Mk → Int
  | [] => 0
  | m :: A => (if r m = 0 then m.2.2 else 0) + zerG r A
noncomputable def upG (r : Mk → Rat) (left : Int) (m : Mk) : Int := if r m = 0 then (if 2 * m.2.2 < left then 2 * m.2.2 else left) else 0
noncomputable def erl (r : Mk → Rat) : Int → List Mk → List Int
  | _, [] => []
  | left, m :: A => (fixG r m + upG r left m) :: erl r (left - upG r left m) A
noncomputable def tR (ps : List Int) : List Rat := ps.map fun n : Int => (n : Rat)
theorem fixGS_sum (r : Mk → Rat) : ∀ A : List Mk, (A.map (fixG r)).sum = fixGS r A
  | [] => rfl
  | m :: A => by rw [List.map_cons, List.sum_cons, fixGS_sum r A, fixGS]
theorem erl_len (r : Mk → Rat) : ∀ (left : Int) (A : List Mk), (erl r left A).length = A.length
  | _, [] => rfl
  | left, m :: A => by rw [erl, List.length_cons, erl_len r, List.length_cons]
theorem upG_nn {r : Mk → Rat} {left : Int} {m : Mk} (h : 0 ≤ left) (hw : 1 ≤ m.2.2) : 0 ≤ upG r left m ∧ upG r left m ≤ left := by
  unfold upG
  split
  · split <;> omega
  · omega
theorem zerG_nn {r : Mk → Rat} : ∀ {A : List Mk}, (∀ m ∈ A, 1 ≤ m.2.2) → 0 ≤ zerG r A
  | [], _ => Int.le_refl _
  | m :: A, h => by
    have ih := zerG_nn (r := r) (A := A) fun x hx => h x (List.mem_cons_of_mem _ hx)
    have := h m List.mem_cons_self
    rw [zerG]
    split <;> omega
theorem erl_sum (r : Mk → Rat) : ∀ (left : Int) (A : List Mk), 0 ≤ left → (∀ m ∈ A, 1 ≤ m.2.2) → (erl r left A).sum = fixGS r A + (if 2 * zerG r A < left then 2 * zerG r A else left)
  | left, [], h, _ => by
    have e1 : (erl r left []).sum = 0 := rfl
    have e2 : fixGS r [] = 0 := rfl
    have e3 : zerG r [] = 0 := rfl
    rw [e1, e2, e3]
    split <;> omega
  | left, m :: A, h, hw => by
    have hm := hw m List.mem_cons_self
    have hA : ∀ x ∈ A, 1 ≤ x.2.2 := fun x hx => hw x (List.mem_cons_of_mem _ hx)
    obtain ⟨u0, u1⟩ := upG_nn (r := r) h hm
    have ih := erl_sum r (left - upG r left m) A (by omega) hA
    have z0 := zerG_nn (r := r) hA
    rw [erl, List.sum_cons, ih, fixGS, zerG]
    have hu : upG r left m = if r m = 0 then (if 2 * m.2.2 < left then 2 * m.2.2 else left) else 0 := rfl
    generalize fixG r m = f at *
    generalize fixGS r A = F at *
    generalize zerG r A = Z at *
    generalize upG r left m = u at *
    by_cases c : r m = 0
    · rw [if_pos c] at hu ⊢
      split at hu <;> split <;> split <;> omega
    · rw [if_neg c] at hu ⊢
      subst hu
      split <;> split <;> omega
noncomputable def FairM (r : Mk → Rat) (m : Mk) (p : Rat) : Prop := (0 < r m → p = (m.2.2 : Rat)) ∧ (r m < 0 → p = -(m.2.2 : Rat)) ∧ -(m.2.2 : Rat) ≤ p ∧ p ≤ (m.2.2 : Rat)
noncomputable def FairL (r : Mk → Rat) : List Mk → List Rat → Prop
  | [], [] => True
  | m :: A, p :: ps => FairM r m p ∧ FairL r A ps
  | _, _ => False
theorem FairL.len {r : Mk → Rat} : ∀ {A : List Mk} {ps : List Rat}, FairL r A ps → ps.length = A.length
  | [], [], _ => rfl
  | m :: A, p :: ps, h => by rw [List.length_cons, List.length_cons, FairL.len h.2]
theorem FairL.app {r : Mk → Rat} {B : List Mk} {qs : List Rat} (hB : FairL r B qs) : ∀ {A : List Mk} {ps : List Rat}, FairL r A ps → FairL r (A ++ B) (ps ++ qs)
  | [], [], _ => hB
  | m :: A, p :: ps, h => ⟨h.1, FairL.app hB h.2⟩
theorem FairL.rev {r : Mk → Rat} : ∀ {A : List Mk} {ps : List Rat}, FairL r A ps → FairL r A.reverse ps.reverse
  | [], [], _ => trivial
  | m :: A, p :: ps, h => by
    rw [List.reverse_cons, List.reverse_cons]
    exact FairL.app (B := [m]) (qs := [p]) ⟨h.1, trivial⟩ (FairL.rev h.2)
theorem FairL.at {r : Mk → Rat} : ∀ {A : List Mk} {ps : List Rat}, FairL r A ps → ∀ {i : Nat} {m : Mk} {p : Rat}, A[i]? = some m → ps[i]? = some p → FairM r m p
  | [], [], _, i, m, p, h1, _ => by simp at h1
  | m :: A, p :: ps, h, 0, m', p', h1, h2 => by
    simp at h1 h2
    subst h1; subst h2
    exact h.1
  | m :: A, p :: ps, h, i + 1, m', p', h1, h2 => by
    simp at h1 h2
    exact FairL.at h.2 h1 h2
theorem FairL.mix {r : Mk → Rat} {t : Rat} (t0 : 0 ≤ t) (t1 : t ≤ 1) : ∀ {A : List Mk} {ps qs : List Rat}, FairL r A ps → FairL r A qs → FairL r A (List.zipWith (fun a b => a + t * (b - a)) ps qs)
  | [], [], [], _, _ => trivial
  | m :: A, p :: ps, q :: qs, h, h' => by
    rw [List.zipWith_cons_cons]
    refine ⟨⟨fun c => ?_, fun c => ?_, ?_, ?_⟩, FairL.mix t0 t1 h.2 h'.2⟩
    · rw [h.1.1 c, h'.1.1 c]; grind
    · rw [h.1.2.1 c, h'.1.2.1 c]; grind
    · have a1 := h.1.2.2.1
      have b1 := h'.1.2.2.1
      have := Rat.mul_nonneg (show 0 ≤ 1 - t by grind) (show 0 ≤ p + (m.2.2 : Rat) by grind)
      have := Rat.mul_nonneg t0 (show 0 ≤ q + (m.2.2 : Rat) by grind)
      grind
    · have a1 := h.1.2.2.2
      have b1 := h'.1.2.2.2
      have := Rat.mul_nonneg (show 0 ≤ 1 - t by grind) (show 0 ≤ (m.2.2 : Rat) - p by grind)
      have := Rat.mul_nonneg t0 (show 0 ≤ (m.2.2 : Rat) - q by grind)
      grind
theorem erl_fair (r : Mk → Rat) : ∀ (left : Int) (A : List Mk), 0 ≤ left → (∀ m ∈ A, 1 ≤ m.2.2) → FairL r A (tR (erl r left A))
  | _, [], _, _ => trivial
  | left, m :: A, h, hw => by
    have hm := hw m List.mem_cons_self
    obtain ⟨u0, u1⟩ := upG_nn (r := r) h hm
    refine ⟨?_, erl_fair r _ A (by omega) fun x hx => hw x (List.mem_cons_of_mem _ hx)⟩
    have w0 : (1 : Rat) ≤ (m.2.2 : Rat) := Rat.intCast_le_intCast.mpr hm
    unfold upG fixG
    by_cases c : 0 < r m
    · have c0 : r m ≠ 0 := by grind
      rw [if_pos c, if_neg c0, Int.add_zero]
      exact ⟨fun _ => rfl, fun z => by grind, by grind, Rat.le_refl⟩
    · rw [if_neg c]
      by_cases c0 : r m = 0
      · rw [if_pos c0]
        have b : -m.2.2 ≤ -m.2.2 + (if 2 * m.2.2 < left then 2 * m.2.2 else left) ∧ -m.2.2 + (if 2 * m.2.2 < left then 2 * m.2.2 else left) ≤ m.2.2 := by split <;> omega
        refine ⟨fun z => absurd z c, fun z => by grind, ?_, ?_⟩
        · rw [← Rat.intCast_neg]; exact Rat.intCast_le_intCast.mpr b.1
        · exact Rat.intCast_le_intCast.mpr b.2
      · rw [if_neg c0, Int.add_zero]
        refine ⟨fun z => absurd z c, fun _ => Rat.intCast_neg _, ?_, ?_⟩
        · show -(m.2.2 : Rat) ≤ ((-m.2.2 : Int) : Rat)
          rw [Rat.intCast_neg]; exact Rat.le_refl
        · show ((-m.2.2 : Int) : Rat) ≤ (m.2.2 : Rat)
          rw [Rat.intCast_neg]; grind
noncomputable def dotM (f : Mk → Rat) (A : List Mk) (ps : List Rat) : Rat := tot (List.zipWith (fun m p => f m * p) A ps)
theorem dotM_cons (f : Mk → Rat) (m : Mk) (A : List Mk) (p : Rat) (ps : List Rat) : dotM f (m :: A) (p :: ps) = f m * p + dotM f A ps := rfl
theorem dv_nz {r g : Mk → Rat} {m : Mk} (c : r m ≠ 0) : dv r g m = -(g m * (fixG r m : Rat)) := by
  unfold dv fixG
  by_cases c1 : 0 < r m
  · rw [if_pos c1, if_pos c1]; grind
  · rw [if_neg c1, if_neg c1, if_pos (by grind), Rat.intCast_neg]; grind
theorem dv_z {r g : Mk → Rat} {m : Mk} (c : r m = 0) : dv r g m = (m.2.2 : Rat) * absR (g m) := by
  unfold dv
  rw [if_neg (by grind), if_neg (by grind)]
theorem fixG_z {r : Mk → Rat} {m : Mk} (c : r m = 0) : fixG r m = -m.2.2 := by
  unfold fixG
  rw [if_neg (by grind)]
theorem erl_turn0 {r pl : Mk → Rat} {x : Rat} : ∀ {A : List Mk}, (∀ m ∈ A, 1 ≤ m.2.2) → (∀ m ∈ A, x ≤ pl m) → dotM (fun m => pl m - x) A (tR (erl r 0 A)) = -tot (A.map (dv r fun m => pl m - x))
  | [], _, _ => by show (0 : Rat) = -0; grind
  | m :: A, hw, h => by
    have ih := erl_turn0 (r := r) (pl := pl) (x := x) (A := A) (fun y hy => hw y (List.mem_cons_of_mem _ hy)) fun y hy => h y (List.mem_cons_of_mem _ hy)
    have hx := h m List.mem_cons_self
    have hm := hw m List.mem_cons_self
    have u : upG r 0 m = 0 := by
      unfold upG
      split
      · rw [if_neg (by omega)]
      · rfl
    have e : tR (erl r 0 (m :: A)) = (fixG r m : Rat) :: tR (erl r 0 A) := by
      rw [erl, u, Int.add_zero, Int.sub_zero]; rfl
    rw [e, dotM_cons, ih, List.map_cons, tot]
    by_cases c : r m = 0
    · rw [dv_z c, fixG_z c, absR_pos (show 0 ≤ pl m - x by grind), Rat.intCast_neg]; grind
    · rw [dv_nz c]; grind
theorem erl_turn {r pl : Mk → Rat} : ∀ {A : List Mk} {left : Int} {c : Rat}, 0 ≤ left → (∀ m ∈ A, 1 ≤ m.2.2) → A.Pairwise (fun a b => pl a < pl b) → (∀ m ∈ A, c ≤ pl m) → ∃ x, c ≤ x ∧ dotM (fun m => pl m - x) A (tR (erl r left A)) = -tot (A.map (dv r fun m => pl m - x))
  | [], left, c, _, _, _, _ => ⟨c, Rat.le_refl, by show (0 : Rat) = -0; grind⟩
  | m :: A, left, c, h, hw, up, hc => by
    have hA : ∀ y ∈ A, 1 ≤ y.2.2 := fun y hy => hw y (List.mem_cons_of_mem _ hy)
    have hm := hw m List.mem_cons_self
    have cm := hc m List.mem_cons_self
    have up' := List.pairwise_cons.mp up
    have e : tR (erl r left (m :: A)) = ((fixG r m + upG r left m : Int) : Rat) :: tR (erl r (left - upG r left m) A) := rfl
    rw [e]
    by_cases z : r m = 0
    · by_cases d : 2 * m.2.2 < left
      · have u : upG r left m = 2 * m.2.2 := by unfold upG; rw [if_pos z, if_pos d]
        rw [u]
        obtain ⟨x, h1, h2⟩ := erl_turn (r := r) (pl := pl) (A := A) (left := left - 2 * m.2.2) (c := pl m) (by omega) hA up'.2 fun y hy => Rat.le_of_lt (up'.1 y hy)
        refine ⟨x, by grind, ?_⟩
        rw [dotM_cons, h2, List.map_cons, tot, dv_z z, fixG_z z, absR_neg (show pl m - x ≤ 0 by grind), show -m.2.2 + 2 * m.2.2 = m.2.2 by omega]
        grind
      · have u : upG r left m = left := by unfold upG; rw [if_pos z, if_neg d]
        rw [u, Int.sub_self]
        refine ⟨pl m, cm, ?_⟩
        rw [dotM_cons, erl_turn0 hA fun y hy => Rat.le_of_lt (up'.1 y hy), List.map_cons, tot, dv_z z, show pl m - pl m = 0 by grind, absR_pos (q := 0) Rat.le_refl]
        grind
    · have u : upG r left m = 0 := by unfold upG; rw [if_neg z]
      rw [u, Int.add_zero, Int.sub_zero]
      obtain ⟨x, h1, h2⟩ := erl_turn (r := r) (pl := pl) (A := A) (left := left) (c := c) h hA up'.2 fun y hy => hc y (List.mem_cons_of_mem _ hy)
      refine ⟨x, h1, ?_⟩
      rw [dotM_cons, h2, List.map_cons, tot, dv_nz z]
      grind
theorem dotM_sub (f : Mk → Rat) (x : Rat) : ∀ {A : List Mk} {ps : List Rat}, ps.length = A.length → dotM (fun m => f m - x) A ps = dotM f A ps - x * tot ps
  | [], [], _ => by show (0 : Rat) = 0 - x * 0; grind
  | m :: A, p :: ps, h => by
    rw [dotM_cons, dotM_cons, dotM_sub f x (by simpa using h), tot]
    grind
theorem tR_tot : ∀ ns : List Int, tot (tR ns) = (ns.sum : Rat)
  | [] => rfl
  | n :: ns => by
    have e : tR (n :: ns) = (n : Rat) :: tR ns := rfl
    rw [e, tot, tR_tot ns, List.sum_cons, Rat.intCast_add]
theorem dv_one (r : Mk → Rat) : ∀ A : List Mk, tot (A.map (dv r fun _ => 1)) = -(fixGS r A : Rat) ∧ tot (A.map (dv r fun _ => -1)) = (fixGS r A : Rat) + 2 * (zerG r A : Rat)
  | [] => ⟨by show (0 : Rat) = -((0 : Int) : Rat); grind, by show (0 : Rat) = ((0 : Int) : Rat) + 2 * ((0 : Int) : Rat); grind⟩
  | m :: A => by
    obtain ⟨h1, h2⟩ := dv_one r A
    rw [List.map_cons, List.map_cons, tot, tot, h1, h2, fixGS, zerG, Rat.intCast_add, Rat.intCast_add]
    by_cases c : r m = 0
    · rw [dv_z c, dv_z c, fixG_z c, if_pos c, absR_pos (q := 1) (by decide), absR_neg (q := -1) (by decide), Rat.intCast_neg]
      exact ⟨by grind, by grind⟩
    · rw [dv_nz c, dv_nz c, if_neg c]
      exact ⟨by grind, by grind⟩
theorem early_ok {r pl : Mk → Rat} {A : List Mk} (hw : ∀ m ∈ A, 1 ≤ m.2.2) (up : A.Pairwise fun a b => pl a < pl b) (h : ∀ da db, 0 ≤ tot (A.map (dv r fun m => da + db * pl m))) :
    0 ≤ -fixGS r A ∧ tot (tR (erl r (-fixGS r A) A)) = 0 ∧ dotM pl A (tR (erl r (-fixGS r A) A)) ≤ 0 := by
  obtain ⟨e1, e2⟩ := dv_one r A
  have f1 : (fun m : Mk => (1 : Rat) + 0 * pl m) = fun _ => 1 := by funext m; grind
  have f2 : (fun m : Mk => (-1 : Rat) + 0 * pl m) = fun _ => -1 := by funext m; grind
  have h1 := h 1 0
  have h2 := h (-1) 0
  rw [f1, e1, ← Rat.intCast_neg] at h1
  rw [f2, e2] at h2
  have l0 : 0 ≤ -fixGS r A := Rat.intCast_nonneg.mp h1
  have l1 : -fixGS r A ≤ 2 * zerG r A := by
    have e : (fixGS r A : Rat) + 2 * (zerG r A : Rat) = ((fixGS r A + 2 * zerG r A : Int) : Rat) := by rw [Rat.intCast_add, Rat.intCast_mul]; rfl
    rw [e] at h2
    have := Rat.intCast_nonneg.mp h2
    omega
  have s0 : tot (tR (erl r (-fixGS r A) A)) = 0 := by
    rw [tR_tot, erl_sum r _ _ l0 hw]
    have : fixGS r A + (if 2 * zerG r A < -fixGS r A then 2 * zerG r A else -fixGS r A) = 0 := by
      rw [if_neg (by omega)]; omega
    rw [this]; rfl
  refine ⟨l0, s0, ?_⟩
  obtain ⟨c, hc⟩ : ∃ c : Rat, ∀ m ∈ A, c ≤ pl m := by
    clear h h1 h2 e1 e2 l0 l1 s0 hw
    induction A with
    | nil => exact ⟨0, fun _ h => nomatch h⟩
    | cons m A ih =>
      have up' := List.pairwise_cons.mp up
      refine ⟨pl m, fun x hx => ?_⟩
      rcases List.mem_cons.mp hx with rfl | hx
      · exact Rat.le_refl
      · exact Rat.le_of_lt (up'.1 x hx)
  obtain ⟨x, _, hx⟩ := erl_turn (r := r) l0 hw up hc
  have h3 := h (-x) 1
  have f3 : (fun m : Mk => -x + 1 * pl m) = fun m => pl m - x := by funext m; grind
  rw [f3] at h3
  rw [dotM_sub pl x (by unfold tR; rw [List.length_map, erl_len]), s0] at hx
  grind
noncomputable def earL (l : Ln) (ms : List Mk) : List Rat := tR (erl (rr l) (-fixGS (rr l) ms) ms)
noncomputable def latL (l : Ln) (ms : List Mk) : List Rat := (tR (erl (rr l) (-fixGS (rr l) ms.reverse) ms.reverse)).reverse
noncomputable def trn (ms : List Mk) (ps : List Rat) : Rat := dotM (·.1) ms ps
noncomputable def pulL (l : Ln) (ms : List Mk) : List Rat := if trn ms (earL l ms) = trn ms (latL l ms) then earL l ms else List.zipWith (fun a b => a + (trn ms (earL l ms) / (trn ms (earL l ms) - trn ms (latL l ms))) * (b - a)) (earL l ms) (latL l ms)
theorem dotM_app (f : Mk → Rat) {B : List Mk} {qs : List Rat} : ∀ {A : List Mk} {ps : List Rat}, ps.length = A.length → dotM f (A ++ B) (ps ++ qs) = dotM f A ps + dotM f B qs
  | [], [], _ => by show _ = (0 : Rat) + _; rw [Rat.zero_add]; rfl
  | m :: A, p :: ps, h => by
    rw [List.cons_append, List.cons_append, dotM_cons, dotM_cons, dotM_app f (by simpa using h), Rat.add_assoc]
theorem dotM_rev (f : Mk → Rat) : ∀ {A : List Mk} {ps : List Rat}, ps.length = A.length → dotM f A.reverse ps.reverse = dotM f A ps
  | [], [], _ => rfl
  | m :: A, p :: ps, h => by
    have h' : ps.length = A.length := by simpa using h
    rw [List.reverse_cons, List.reverse_cons, dotM_app f (by rw [List.length_reverse, List.length_reverse]; exact h'), dotM_rev f h']
    show dotM f A ps + (f m * p + 0) = f m * p + dotM f A ps
    grind
theorem dotM_neg (f : Mk → Rat) : ∀ (A : List Mk) (ps : List Rat), dotM (fun m => -f m) A ps = -dotM f A ps
  | [], _ => by show (0 : Rat) = -0; grind
  | m :: A, [] => by show (0 : Rat) = -0; grind
  | m :: A, p :: ps => by rw [dotM_cons, dotM_cons, dotM_neg f A ps]; grind
theorem dotM_mix (f : Mk → Rat) (t : Rat) : ∀ {A : List Mk} {ps qs : List Rat}, ps.length = A.length → qs.length = A.length → dotM f A (List.zipWith (fun a b => a + t * (b - a)) ps qs) = dotM f A ps + t * (dotM f A qs - dotM f A ps)
  | [], [], [], _, _ => by show (0 : Rat) = 0 + t * (0 - 0); grind
  | m :: A, p :: ps, q :: qs, h, h' => by
    rw [List.zipWith_cons_cons, dotM_cons, dotM_cons, dotM_cons, dotM_mix f t (by simpa using h) (by simpa using h')]
    grind
theorem tot_dot : ∀ {A : List Mk} {ps : List Rat}, ps.length = A.length → tot ps = dotM (fun _ => 1) A ps
  | [], [], _ => rfl
  | m :: A, p :: ps, h => by
    rw [dotM_cons, tot, tot_dot (A := A) (by simpa using h)]
    grind
structure LnOk (ms : List Mk) (l : Ln) (ps : List Rat) : Prop where
  fair : FairL (rr l) ms ps
  tot0 : tot ps = 0
  trn0 : trn ms ps = 0
theorem pulls_ok {ms : List Mk} {l : Ln} (hw : ∀ m ∈ ms, 1 ≤ m.2.2) (up : ms.Pairwise fun a b => a.1 < b.1) (h : ∀ a b, FS ms l ≤ FS ms (a, b)) :
    FairL (rr l) ms (earL l ms) ∧ FairL (rr l) ms (latL l ms) ∧ LnOk ms l (pulL l ms) ∧ 0 ≤ -fixGS (rr l) ms ∧ 0 ≤ -fixGS (rr l) ms.reverse := by
  have hd := dir_nn h
  obtain ⟨a1, a2, a3⟩ := early_ok (r := rr l) (pl := fun m => m.1) hw up hd
  have hw' : ∀ m ∈ ms.reverse, 1 ≤ m.2.2 := fun m hm => hw m (List.mem_reverse.mp hm)
  obtain ⟨b1, b2, b3⟩ := early_ok (r := rr l) (pl := fun m => -m.1) (A := ms.reverse) hw' (by
      rw [List.pairwise_reverse]
      exact up.imp fun h => by grind) (fun da db => by
      have h1 := hd da (-db)
      have e : (fun m : Mk => da + db * -m.1) = fun m => da + -db * m.1 := by funext m; grind
      rw [e, tot_perm ((List.reverse_perm ms).map _)]
      exact h1)
  have fe : FairL (rr l) ms (earL l ms) := erl_fair _ _ _ a1 hw
  have fl : FairL (rr l) ms (latL l ms) := by
    have := (erl_fair (rr l) _ _ b1 hw').rev
    rwa [List.reverse_reverse] at this
  have le := fe.len
  have ll := fl.len
  have te : trn ms (earL l ms) ≤ 0 := a3
  have se : tot (earL l ms) = 0 := a2
  have sl : tot (latL l ms) = 0 := by
    unfold latL
    rw [tot_perm (List.reverse_perm _)]
    exact b2
  have tl : 0 ≤ trn ms (latL l ms) := by
    have e := dotM_rev (fun m => -m.1) (A := ms.reverse) (ps := tR (erl (rr l) (-fixGS (rr l) ms.reverse) ms.reverse)) (by unfold tR; rw [List.length_map, erl_len])
    rw [List.reverse_reverse] at e
    have e2 : dotM (fun m : Mk => -m.1) ms (latL l ms) ≤ 0 := by
      unfold latL; rw [e]; exact b3
    rw [dotM_neg (fun m => m.1)] at e2
    show 0 ≤ dotM (fun m => m.1) ms (latL l ms)
    grind
  refine ⟨fe, fl, ?_, a1, b1⟩
  unfold pulL
  by_cases c : trn ms (earL l ms) = trn ms (latL l ms)
  · rw [if_pos c]
    exact ⟨fe, se, by grind⟩
  · rw [if_neg c]
    have d0 : trn ms (earL l ms) - trn ms (latL l ms) ≠ 0 := fun z => c (by grind)
    obtain ⟨t, ht⟩ : ∃ t, trn ms (earL l ms) / (trn ms (earL l ms) - trn ms (latL l ms)) = t := ⟨_, rfl⟩
    have et : t * (trn ms (earL l ms) - trn ms (latL l ms)) = trn ms (earL l ms) := by rw [← ht]; exact Rat.div_mul_cancel d0
    rw [ht]
    have t0 : 0 ≤ t := Rat.not_lt.mp fun z => by
      have := Rat.mul_pos (show 0 < -t by grind) (show 0 < trn ms (latL l ms) - trn ms (earL l ms) by grind)
      grind
    have t1 : t ≤ 1 := Rat.not_lt.mp fun z => by
      have := Rat.mul_pos (show 0 < t - 1 by grind) (show 0 < trn ms (latL l ms) - trn ms (earL l ms) by grind)
      grind
    have fm := FairL.mix t0 t1 fe fl
    refine ⟨fm, ?_, ?_⟩
    · rw [tot_dot fm.len, dotM_mix _ t le ll, ← tot_dot le, ← tot_dot ll, se, sl]
      grind
    · unfold trn at et ⊢
      rw [dotM_mix _ t le ll]
      grind
noncomputable def hgt (ns : List Rat) (x : Rat) : Rat := ns.reverse.foldl (fun h n => h * x + n) 0
theorem hgt_nil (x : Rat) : hgt [] x = 0 := rfl
theorem hgt_cons (n : Rat) (ns : List Rat) (x : Rat) : hgt (n :: ns) x = hgt ns x * x + n := by
  unfold hgt
  rw [List.reverse_cons, List.foldl_append]
  rfl
section
variable {P : Program} {w : World} {K : PySem.W.Frag} {mg : Str → Option Value} {base : Heap} {A : Adr}
noncomputable def wHeight : DW := fun ds Q _ => ∃ (ns : List Rat) (x : Rat) (a b : Nat), ds = [.list (ns.map fr), fr x] ∧ ns.length ≤ 60 ∧ (∀ n ∈ ns, Dg a n) ∧ Dg b x ∧ ns.length * (a + b + 2) ≤ 2300 ∧ Q (.dat (fr (hgt ns x)))
theorem ok_height_at (T : Txt K mg A) : FnOk P w K mg base (CXE P w) 4 A.a_height_at A.d_height_at ["numbers", "x"] (spW K wHeight) := by
  have G_plus := ok_plus (P := P) (w := w) (base := base) T
  have G_product := ok_product (P := P) (w := w) (base := base) T
  refine okW T.F_height_at sc_height_at (fun ds Q E h => ?_) (fun cdv Ar outer s H E hr => ?_)
  · obtain ⟨_, _, _, _, rfl, _⟩ := h; rfl
  refine ⟨_, (pss_cons (ps_set (i := 2) sc_height_at.nd rfl (Or.inl rfl) (pe_glob rfl T.c_NOUGHT (show RelV (.ref _) (.ref _) from rfl)))
      (pss_cons (ps_for PassesOwn.leaving rfl (pi_reversed (K := K) rfl rfl T.n_reversed (pa_cons (pv 0) pa_nil)) (pg_name (i := 3) sc_height_at.nd rfl (Or.inl rfl))
        (pss_one (ps_set (i := 2) sc_height_at.nd rfl (Or.inl rfl) (pe_call G_plus (hr.mono (by decide)) rfl T.m_plus T.F_plus.kp T.b_plus .nil passE0 (pa_cons (pe_call G_product (hr.mono (by decide)) rfl T.m_product T.F_product.kp T.b_product .nil passE0 (pa_cons (pv 2) (pa_cons (pv 1) pa_nil))) (pa_cons (pv 3) pa_nil))))))
      (pss_one (ps_ret (pv 2))))), _, (sv_seq (sv_asg (ev_c T.k_NOUGHT) (gv_name 2))
      (sv_seq (sv_for (is_rev (ev_var 0)) (gv_name 3)
        (sv_asg (ev_call0 (av_cons (bv_ev (ev_call0 (av_cons (bv_var 2) (av_cons (bv_var 1) av_nil)))) (av_cons (bv_var 3) av_nil))) (gv_name 2)))
      (sv_retV 2))), ?_⟩
  rintro ds Q X ⟨ns, x, a, b, rfl, hl, hn, hx, hs, k⟩
  walk_at "s"
  refine seq_mk (for_map fr ns.reverse (fun Q h => by
      walk_at "d"
      rw [← List.map_reverse]; exact h)
    (fun i δ => ∃ (q : Rat) (r : Option Sl), δ = [some (.dat (.list (ns.map fr))), some (.dat (fr x)), some (.dat (fr q)), r] ∧ q = (ns.reverse.take i).foldl (fun h n => h * x + n) 0 ∧ Dg (i * (a + b + 2)) q)
    ⟨0, _, rfl, rfl, Dg.zero⟩ ?_ ?_)
  · rintro i n δ hi ⟨q, r, rfl, hq, hd⟩
    have il : i < ns.length := by have := (List.getElem?_eq_some_iff.mp hi).1; simpa using this
    have hnn := hn n (by have := List.mem_of_getElem? hi; simpa using this)
    have hi4 : i * (a + b + 2) + (a + b + 2) ≤ 2300 := by
      have := Nat.mul_le_mul_right (a + b + 2) (show i + 1 ≤ ns.length by omega)
      rw [Nat.add_mul, Nat.one_mul] at this
      omega
    have h1 := hd.mul hx
    have h2 := h1.add hnn
    walk_at "d"
    refine ⟨q, x, rfl, dgOk hd (by omega), dgOk hx (by omega), ?_⟩
    walk_at "d"
    refine ⟨_, n, rfl, dgOk h1 (by omega), dgOk hnn (by omega), ?_⟩
    walk_at "d"
    refine ⟨_, _, rfl, ?_, h2.mono (by rw [Nat.add_mul]; omega)⟩
    rw [take_snoc hi, List.foldl_append, hq]
    rfl
  · rintro δ ⟨q, r, rfl, hq, hd⟩
    walk_at "d"
    rw [List.take_of_length_le (Nat.le_refl _)] at hq
    rw [hq]
    exact k
noncomputable def wRowOf : DW := fun ds Q _ => ∃ (ns : List Rat) (ms : List Mk) (a b : Nat), ds = [.list (ns.map fr), .list (ms.map mk3)] ∧ ns.length ≤ 60 ∧ ms.length ≤ 1000 ∧ (∀ n ∈ ns, Dg a n) ∧ (∀ m ∈ ms, Dg b m.1) ∧ ns.length * (a + b + 2) ≤ 2300 ∧ Q (.own ((ms.map fun m => hgt ns m.1).map fr))
theorem ok_row_of (T : Txt K mg A) : FnOk P w K mg base (CXE P w) 5 A.a_row_of A.d_row_of ["numbers", "marks"] (spW K wRowOf) := by
  have G_height_at := ok_height_at (P := P) (w := w) (base := base) T
  refine okW T.F_row_of sc_row_of (fun ds Q E h => ?_) (fun cdv Ar outer s H E hr => ?_)
  · obtain ⟨_, _, _, _, rfl, _⟩ := h; rfl
  refine ⟨_, (pss_one (ps_ret (pe_lc (cap := [none, some 0]) (NC := ["mark", "numbers"]) rfl ⟨rfl, rfl, by decide +kernel, by decide +kernel, ⟨⟨_, rfl, rfl, rfl, rfl, rfl⟩, trivial⟩, (List.forall_mem_cons.2 ⟨rfl, (fun _ h => nomatch h)⟩), rfl⟩ (pilK (K := K) rfl (pv 1)) (fun _ _ _ _ => (pg_name (i := 0) (show List.Nodup (["mark", "numbers"] : List Str) by decide) rfl (Or.inl rfl))) (fun _ _ _ _ => pts_nil) (fun _ _ _ _ => (pe_call G_height_at (hr.mono (by decide)) rfl T.m_height_at T.F_height_at.kp T.b_height_at .nil passE0 (pa_cons (pv 1) (pa_cons (pe_ix (ixtK (K := K) rfl) (pv 0) pe_int (fun _ _ => rfl)) pa_nil))))))), _, (sv_retO (ov_lc (ie_list (lv_var 1)) (gv_name 0) tv_yes (ev_call0 (av_cons (bv_var 1) (av_cons (bv_ev (ev_ixk 0 (ev_var 0))) av_nil))) (by decide) (by decide))), ?_⟩
  rintro ds Q X ⟨ns, ms, a, b, rfl, hl, hm, hn, hx, hs, k⟩
  walk_at "d"
  refine lc_map mk3 fr (fun m : Mk => [hgt ns m.1]) ms hm (fun Q h => h) (fun m h N acc hN => ?_) ?_
  · walk_at "d"
    refine ⟨ns, m.1, a, b, rfl, hl, hn, hx m h, hs, ?_⟩
    walk_at "d"
    exact hN
  · rw [flat_single]
    exact k
end
structure LSz (L : Nat) (ms : List Mk) : Prop where
  n1 : 1 ≤ ms.length
  n60 : ms.length ≤ 60
  L0 : 0 < L
  L1 : L ≤ 10 ^ 100
  x : ∀ m ∈ ms, Cm L (10 ^ 100) m.1
  y : ∀ m ∈ ms, Cm L (10 ^ 100) m.2.1
  w : ∀ m ∈ ms, 1 ≤ m.2.2 ∧ m.2.2 ≤ 10 ^ 100
  up : ms.Pairwise fun a b => a.1 < b.1
section
variable {L : Nat} {ms : List Mk}
theorem LSz.ne (Z : LSz L ms) : ms ≠ [] := List.length_pos_iff.mp Z.n1
theorem LSz.nd (Z : LSz L ms) : (ms.map (·.1)).Nodup := by
  rw [List.nodup_iff_pairwise_ne, List.pairwise_map]
  exact Z.up.imp fun h => by grind
theorem LSz.w1 (Z : LSz L ms) : ∀ m ∈ ms, 1 ≤ m.2.2 := fun m h => (Z.w m h).1
theorem LSz.xd (Z : LSz L ms) {m : Mk} (h : m ∈ ms) : Dg 201 m.1 := (Z.x m h).dg Z.L0 Z.L1 (b := 100) (Nat.le_refl _)
theorem LSz.yd (Z : LSz L ms) {m : Mk} (h : m ∈ ms) : Dg 201 m.2.1 := (Z.y m h).dg Z.L0 Z.L1 (b := 100) (Nat.le_refl _)
theorem LSz.dx (Z : LSz L ms) {m o : Mk} (h : m ∈ ms) (g : o ∈ ms) : Cm L (2 * 10 ^ 100) (o.1 - m.1) := ((Z.x o g).sub (Z.x m h)).mono (Nat.dvd_refl _) (by omega)
theorem LSz.dxd (Z : LSz L ms) {m o : Mk} (h : m ∈ ms) (g : o ∈ ms) : Dg 202 (o.1 - m.1) := (Z.dx h g).dg Z.L0 Z.L1 (b := 101) (by decide +kernel)
theorem LSz.dyd (Z : LSz L ms) {m o : Mk} (h : m ∈ ms) (g : o ∈ ms) : Dg 202 (o.2.1 - m.2.1) := (((Z.y o g).sub (Z.y m h)).mono (Nat.dvd_refl _) (show 10 ^ 100 + 10 ^ 100 ≤ 2 * 10 ^ 100 by omega)).dg Z.L0 Z.L1 (b := 101) (by decide +kernel)
theorem LSz.slp (Z : LSz L ms) {m o : Mk} (h : m ∈ ms) (g : o ∈ othM ms m) : Dg 405 (slp m o).1 := by
  obtain ⟨h1, h2⟩ := List.mem_filter.mp g
  have h3 : o.1 ≠ m.1 := of_decide_eq_true h2
  exact (Z.dyd h h1).div (Z.dxd h h1) (fun z => h3 (by grind))
theorem lineAt_dg (Z : LSz L ms) {m : Mk} (h : m ∈ ms) : Dg 405 (lineAt ms m).2 ∧ (lineAt ms m).1 = m.2.1 - (lineAt ms m).2 * m.1 := by
  unfold lineAt
  by_cases c : othM ms m = []
  · rw [if_pos c]
    exact ⟨Dg.zero, by grind⟩
  · rw [if_neg c]
    refine ⟨?_, rfl⟩
    obtain ⟨z, hz, e⟩ := (midF_mid (by simpa using c) (slp_pos (m := m) Z.w1)).mem
    obtain ⟨o, ho, rfl⟩ := List.mem_map.mp hz
    show Dg 405 (midF _)
    rw [← e]
    exact Z.slp h ho
structure LnSz (L : Nat) (ms : List Mk) (l : Ln) : Prop where
  s : Dg 405 l.2
  a : Dg 809 l.1
  c : ∃ D : Nat, 0 < D ∧ D ≤ 10 ^ 405 ∧ ∀ o ∈ ms, Cm (D * L) (10 ^ 506) (l.1 + l.2 * o.1)
theorem lnSz_of (Z : LSz L ms) {m : Mk} {l : Ln} (h : m ∈ ms) (s : Dg 405 l.2) (e : l.1 = m.2.1 - l.2 * m.1) : LnSz L ms l := by
  have cs : Cm l.2.den (10 ^ 405) l.2 := Cm.of (Nat.dvd_refl _) (Nat.le_trans s.n (Nat.le_mul_of_pos_right _ (Nat.pos_of_ne_zero l.2.den_nz)))
  refine ⟨s, ?_, l.2.den, Nat.pos_of_ne_zero l.2.den_nz, s.d, fun o ho => ?_⟩
  · rw [e]
    exact ((Z.yd h).sub (s.mul (Z.xd h))).mono (by decide)
  · have e2 : l.1 + l.2 * o.1 = m.2.1 + l.2 * (o.1 - m.1) := by rw [e]; grind
    rw [e2]
    exact (((Z.y m h).mono (Nat.dvd_mul_left _ _) (Nat.le_refl _)).add (cs.mul (Z.dx h ho))).mono (Nat.dvd_refl _) (by decide +kernel)
theorem hgt2 (a b x : Rat) : hgt [a, b] x = a + b * x := by
  rw [hgt_cons, hgt_cons, hgt_nil]; grind
theorem LnSz.msz (Z : LSz L ms) {l : Ln} (h : LnSz L ms l) : ∃ M : Nat, MSz M (10 ^ 506) (10 ^ 100) 505 506 100 ms (ms.map fun m => hgt [l.1, l.2] m.1) := by
  obtain ⟨D, d0, d1, hc⟩ := h.c
  refine ⟨D * L, Z.n60, Nat.mul_pos d0 Z.L0, ?_, Nat.le_refl _, Nat.le_refl _, fun m hm => ((Z.y m hm).mono (Nat.dvd_mul_left _ _) (ten_le (by decide))), fun q hq => ?_, fun m hm => by have := Z.w m hm; omega, by decide⟩
  · exact Nat.le_trans (Nat.mul_le_mul d1 Z.L1) (by decide +kernel)
  · obtain ⟨m, hm, rfl⟩ := List.mem_map.mp hq
    rw [hgt2]
    exact hc m hm
theorem wmiss_map (f : Mk → Rat) : ∀ ms : List Mk, wmissR ms (ms.map f) = ms.map fun m => (m.2.2 : Rat) * (m.2.1 - f m)
  | [] => rfl
  | m :: ms => by
    have ih := wmiss_map f ms
    unfold wmissR missR at ih ⊢
    rw [List.map_cons, List.map_cons, List.zipWith_cons_cons, List.zipWith_cons_cons, ih]
theorem miss_map (f : Mk → Rat) : ∀ ms : List Mk, missR ms (ms.map f) = ms.map fun m => m.2.1 - f m
  | [] => rfl
  | m :: ms => by
    have ih := miss_map f ms
    unfold missR at ih ⊢
    rw [List.map_cons, List.map_cons, List.zipWith_cons_cons, ih]
theorem FS_meas (hw : ∀ m ∈ ms, 1 ≤ m.2.2) (l : Ln) : meas "sum" ms (ms.map fun m => hgt [l.1, l.2] m.1) = FS ms l := by
  unfold meas FS
  rw [if_neg (by decide), if_pos rfl, wmiss_map, List.map_map]
  congr 1
  refine List.map_congr_left fun m hm => ?_
  show absR ((m.2.2 : Rat) * (m.2.1 - hgt [l.1, l.2] m.1)) = _
  rw [absR_mul, hgt2, absR_pos (Rat.intCast_nonneg.mpr (by have := hw m hm; omega))]
  rfl
theorem best_sz (Z : LSz L ms) : LnSz L ms (bestL ms) := by
  obtain ⟨m, hm, e⟩ := bestL_mem Z.ne
  obtain ⟨h1, h2⟩ := lineAt_dg Z hm
  rw [e]
  exact lnSz_of Z hm h1 h2
theorem best_opt (Z : LSz L ms) (a b : Rat) : FS ms (bestL ms) ≤ FS ms (a, b) := best_least Z.ne Z.w1 Z.nd a b
theorem best_pulls (Z : LSz L ms) : FairL (rr (bestL ms)) ms (earL (bestL ms) ms) ∧ FairL (rr (bestL ms)) ms (latL (bestL ms) ms) ∧ LnOk ms (bestL ms) (pulL (bestL ms) ms) ∧ 0 ≤ -fixGS (rr (bestL ms)) ms ∧ 0 ≤ -fixGS (rr (bestL ms)) ms.reverse := pulls_ok Z.w1 Z.up (best_opt Z)
end
theorem oth_flat (m : Mk) : ∀ ms : List Mk, (ms.flatMap fun o : Mk => if o.1 = m.1 then [] else [o]) = othM ms m
  | [] => rfl
  | o :: ms => by
    unfold othM
    rw [List.flatMap_cons, oth_flat m ms]
    by_cases c : o.1 = m.1
    · rw [if_pos c, List.filter_cons_of_neg (by simpa using c)]; rfl
    · rw [if_neg c, List.filter_cons_of_pos (by simpa using c)]; rfl
theorem zip_map_m (f : Mk → Rat) : ∀ ms : List Mk, ms.zip (ms.map f) = ms.map fun m => (m, f m)
  | [] => rfl
  | m :: ms => by rw [List.map_cons, List.zip_cons_cons, zip_map_m f ms]; rfl
theorem zw_map (f : Mk → Rat) (ms : List Mk) (ps : List Rat) : (ms.zip ps).map (fun z => f z.1 * z.2) = List.zipWith (fun m p => f m * p) ms ps := by
  induction ms generalizing ps with
  | nil => rfl
  | cons m ms ih => cases ps with
    | nil => rfl
    | cons p ps => rw [List.zip_cons_cons, List.map_cons, List.zipWith_cons_cons, ih]
section
variable {P : Program} {w : World} {K : PySem.W.Frag} {mg : Str → Option Value} {base : Heap} {A : Adr}
noncomputable def wLineAt : DW := fun ds Q _ => ∃ (ms : List Mk) (m : Mk) (L : Nat), ds = [.list (ms.map mk3), mk3 m] ∧ LSz L ms ∧ m ∈ ms ∧ Q (.own [fr (lineAt ms m).1, fr (lineAt ms m).2])
theorem ok_line_at (T : Txt K mg A) : FnOk P w K mg base (CXE P w) 5 A.a_line_at A.d_line_at ["marks", "mark"] (spW K wLineAt) := by
  have G_minus := ok_minus (P := P) (w := w) (base := base) T
  have G_product := ok_product (P := P) (w := w) (base := base) T
  have G_quotient := ok_quotient (P := P) (w := w) (base := base) T
  have G_size_of := ok_size_of (P := P) (w := w) (base := base) T
  have G_middle_of := ok_middle_of (P := P) (w := w) (base := base) T
  refine okW T.F_line_at sc_line_at (fun ds Q E h => ?_) (fun cdv Ar outer s H E hr => ?_)
  · obtain ⟨_, _, _, rfl, _⟩ := h; rfl
  refine ⟨_, (pss_cons (ps_setLC (i := 2) (cap := [none, some 1]) (NC := ["other", "mark"]) sc_line_at.nd rfl rfl rfl ⟨rfl, rfl, by decide +kernel, by decide +kernel, ⟨⟨_, rfl, rfl, rfl, rfl, rfl⟩, trivial⟩, (List.forall_mem_cons.2 ⟨rfl, (fun _ h => nomatch h)⟩), rfl⟩ (pilK (K := K) rfl (pv 0)) (fun _ _ _ _ => (pg_name (i := 0) (show List.Nodup (["other", "mark"] : List Str) by decide) rfl (Or.inl rfl))) (fun _ _ _ _ => (pts_one (pt_cmpR (neK (K := K) rfl hr.units) (pe_ix (ixtK (K := K) rfl) (pv 0) pe_int (fun _ _ => rfl)) (pe_ix (ixtK (K := K) rfl) (pv 1) pe_int (fun _ _ => rfl)) (nomark _)))) (fun _ _ _ _ => (pv 0)))
      (pss_cons (ps_if (pt_cmpR op_eq (pe_callB (lenK (K := K) rfl) rfl T.n_len PySem.boot_len (pa_cons (pv 2) pa_nil)) pe_int (nomark _)) (pss_one (ps_ret (pe_lst (pa_cons (pe_ix (ixtK (K := K) rfl) (pv 1) pe_int (fun _ _ => rfl)) (pa_cons (pe_glob rfl T.c_NOUGHT (show RelV (.ref _) (.ref _) from rfl)) pa_nil))))) pss_nil)
      (pss_cons (ps_setLC (i := 3) (cap := [none, some 1]) (NC := ["other", "mark"]) sc_line_at.nd rfl rfl rfl ⟨rfl, rfl, by decide +kernel, by decide +kernel, ⟨⟨_, rfl, rfl, rfl, rfl, rfl⟩, trivial⟩, (List.forall_mem_cons.2 ⟨rfl, (fun _ h => nomatch h)⟩), rfl⟩ (pilK (K := K) rfl (pv 2)) (fun _ _ _ _ => (pg_name (i := 0) (show List.Nodup (["other", "mark"] : List Str) by decide) rfl (Or.inl rfl))) (fun _ _ _ _ => pts_nil) (fun _ _ _ _ => (pe_call G_minus (hr.mono (by decide)) rfl T.m_minus T.F_minus.kp T.b_minus .nil passE0 (pa_cons (pe_ix (ixtK (K := K) rfl) (pv 0) pe_int (fun _ _ => rfl)) (pa_cons (pe_ix (ixtK (K := K) rfl) (pv 1) pe_int (fun _ _ => rfl)) pa_nil)))))
      (pss_cons (ps_setLC (i := 4) (cap := [none, none, some 1]) (NC := ["other", "way", "mark"]) sc_line_at.nd rfl rfl rfl ⟨rfl, rfl, by decide +kernel, by decide +kernel, ⟨⟨_, rfl, rfl, rfl, rfl, rfl⟩, trivial⟩, (List.forall_mem_cons.2 ⟨rfl, (fun _ h => nomatch h)⟩), rfl⟩ (pi_zip (K := K) rfl rfl T.n_zip (pa_cons (pv 2) (pa_cons (pv 3) pa_nil))) (fun _ _ _ _ => (pgtK (K := K) (n := 2) rfl rfl (pgs_cons (pg_name (i := 0) (show List.Nodup (["other", "way", "mark"] : List Str) by decide) rfl (Or.inl rfl)) (pgs_cons (pg_name (i := 1) (show List.Nodup (["other", "way", "mark"] : List Str) by decide) rfl (Or.inl rfl)) pgs_nil)))) (fun _ _ _ _ => pts_nil) (fun _ _ _ _ => (pe_call G_quotient (hr.mono (by decide)) rfl T.m_quotient T.F_quotient.kp T.b_quotient .nil passE0 (pa_cons (pe_call G_minus (hr.mono (by decide)) rfl T.m_minus T.F_minus.kp T.b_minus .nil passE0 (pa_cons (pe_ix (ixtK (K := K) rfl) (pv 0) pe_int (fun _ _ => rfl)) (pa_cons (pe_ix (ixtK (K := K) rfl) (pv 2) pe_int (fun _ _ => rfl)) pa_nil))) (pa_cons (pv 1) pa_nil)))))
      (pss_cons (ps_setLC (i := 5) (cap := [none, none]) (NC := ["other", "way"]) sc_line_at.nd rfl rfl rfl ⟨rfl, rfl, by decide +kernel, by decide +kernel, trivial, (fun _ h => nomatch h), rfl⟩ (pi_zip (K := K) rfl rfl T.n_zip (pa_cons (pv 2) (pa_cons (pv 3) pa_nil))) (fun _ _ _ _ => (pgtK (K := K) (n := 2) rfl rfl (pgs_cons (pg_name (i := 0) (show List.Nodup (["other", "way"] : List Str) by decide) rfl (Or.inl rfl)) (pgs_cons (pg_name (i := 1) (show List.Nodup (["other", "way"] : List Str) by decide) rfl (Or.inl rfl)) pgs_nil)))) (fun _ _ _ _ => pts_nil) (fun _ _ _ _ => (pe_call G_product (hr.mono (by decide)) rfl T.m_product T.F_product.kp T.b_product .nil passE0 (pa_cons (pe_tup (pa_cons (pe_ix (ixtK (K := K) rfl) (pv 0) pe_int (fun _ _ => rfl)) (pa_cons pe_int pa_nil))) (pa_cons (pe_call G_size_of (hr.mono (by decide)) rfl T.m_size_of T.F_size_of.kp T.b_size_of .nil passE0 (pa_cons (pv 1) pa_nil)) pa_nil)))))
      (pss_cons (ps_set (i := 6) sc_line_at.nd rfl (Or.inl rfl) (pe_call G_middle_of (hr.mono (by decide)) rfl T.m_middle_of T.F_middle_of.kp T.b_middle_of .nil passE0 (pa_cons (pv 4) (pa_cons (pv 5) pa_nil))))
      (pss_one (ps_ret (pe_lst (pa_cons (pe_call G_minus (hr.mono (by decide)) rfl T.m_minus T.F_minus.kp T.b_minus .nil passE0 (pa_cons (pe_ix (ixtK (K := K) rfl) (pv 1) pe_int (fun _ _ => rfl)) (pa_cons (pe_call G_product (hr.mono (by decide)) rfl T.m_product T.F_product.kp T.b_product .nil passE0 (pa_cons (pv 6) (pa_cons (pe_ix (ixtK (K := K) rfl) (pv 1) pe_int (fun _ _ => rfl)) pa_nil))) pa_nil))) (pa_cons (pv 6) pa_nil))))))))))), _, (sv_seq (sv_setO 2 (ov_lc (ie_list (lv_var 0)) (gv_name 0) (tv_test (bv_ev (ev_op ro_neD (bv_ev (ev_ixk 0 (ev_var 0))) (bv_ev (ev_ixk 0 (ev_var 1)))))) (ev_var 0) (by decide) (by decide)))
      (sv_seq (sv_if (tv_test (bv_ev (ev_op ro_eq (bv_ev (ev_cb rb_len (av_cons (bv_var 2) av_nil))) (bv_ev ev_int)))) (sv_retO (ov_lst (ae_cons (ev_ixk 1 (ev_var 1)) (ae_cons (ev_c T.k_NOUGHT) ae_nil)) (by decide))) sv_next)
      (sv_seq (sv_setO 3 (ov_lc (ie_list (lv_var 2)) (gv_name 0) tv_yes (ev_call0 (av_cons (bv_ev (ev_ixk 0 (ev_var 0))) (av_cons (bv_ev (ev_ixk 0 (ev_var 1))) av_nil))) (by decide) (by decide)))
      (sv_seq (sv_setO 4 (ov_lc (ie_zip (lv_var 2) (lv_var 3)) (gv_tup (gs_cons (gv_name 0) (gs_cons (gv_name 1) gs_nil))) tv_yes (ev_call0 (av_cons (bv_ev (ev_call0 (av_cons (bv_ev (ev_ixk 1 (ev_var 0))) (av_cons (bv_ev (ev_ixk 1 (ev_var 2))) av_nil)))) (av_cons (bv_var 1) av_nil))) (by decide) (by decide)))
      (sv_seq (sv_setO 5 (ov_lc (ie_zip (lv_var 2) (lv_var 3)) (gv_tup (gs_cons (gv_name 0) (gs_cons (gv_name 1) gs_nil))) tv_yes (ev_call0 (av_cons (bv_ev (ev_tup (ae_cons (ev_ixk 2 (ev_var 0)) (ae_cons ev_int ae_nil)) (by decide))) (av_cons (bv_ev (ev_call0 (av_cons (bv_var 1) av_nil))) av_nil))) (by decide) (by decide)))
      (sv_seq (sv_asg (ev_call0 (av_cons (bv_var 4) (av_cons (bv_var 5) av_nil))) (gv_name 6))
      (sv_retO (ov_lst (ae_cons (ev_call0 (av_cons (bv_ev (ev_ixk 1 (ev_var 1))) (av_cons (bv_ev (ev_call0 (av_cons (bv_var 6) (av_cons (bv_ev (ev_ixk 0 (ev_var 1))) av_nil)))) av_nil))) (ae_cons (ev_var 6) ae_nil)) (by decide))))))))), ?_⟩
  rintro ds Q X ⟨ms, m, L, rfl, Z, hm, k⟩
  have n60 := Z.n60
  walk_at "s"
  refine lc_map mk3 mk3 (fun o : Mk => if o.1 = m.1 then [] else [o]) ms (by omega) (fun Q h => h) (fun o h N acc hN => ?_) ?_
  · walk_at "d"
    refine ⟨Rat, eRat, o.1, m.1, rfl, rfl, fun v hv => ?_⟩
    cases v with
    | true =>
      rw [if_pos (hv.mp rfl)] at hN
      simpa using hN
    | false =>
      rw [if_neg (fun z => by have := hv.mpr z; cases this)] at hN
      simpa using hN
  rw [oth_flat]
  obtain ⟨os, hos⟩ : ∃ os, othM ms m = os := ⟨_, rfl⟩
  have ol : os.length ≤ 60 := by
    rw [← hos]
    exact Nat.le_trans (List.length_filter_le _ _) n60
  have om : ∀ o ∈ os, o ∈ ms ∧ o.1 ≠ m.1 := fun o ho => by
    rw [← hos] at ho
    obtain ⟨h1, h2⟩ := List.mem_filter.mp ho
    exact ⟨h1, of_decide_eq_true h2⟩
  rw [hos]
  walk_at "s"
  refine ite2 (fun c => ?_) (fun c => ?_)
  · have e : os = [] := List.length_eq_zero_iff.mp (by simpa using c)
    unfold lineAt at k
    rw [hos, if_pos e] at k
    walk_at "d"
    exact k
  have ne : os ≠ [] := fun z => c (by rw [z]; rfl)
  unfold lineAt at k
  rw [hos, if_neg ne] at k
  walk_at "s"
  refine lc_map mk3 fr (fun o : Mk => [o.1 - m.1]) os (by omega) (fun Q h => by walk_at "d"; exact h) (fun o h N acc hN => ?_) ?_
  · walk_at "d"
    refine ⟨_, _, rfl, dgOk (Z.xd (om o h).1) (by decide), dgOk (Z.xd hm) (by decide), ?_⟩
    walk_at "d"
    exact hN
  rw [flat_single]
  obtain ⟨wy, hwy⟩ : ∃ wy, (os.map fun o => o.1 - m.1) = wy := ⟨_, rfl⟩
  have ew : os.zip wy = os.map fun o => (o, o.1 - m.1) := by rw [← hwy, zip_map_m]
  rw [hwy]
  walk_at "s"
  refine lc_map (fun z : Mk × Rat => PyData.tuple [mk3 z.1, fr z.2]) fr (fun z : Mk × Rat => [(z.1.2.1 - m.2.1) / z.2]) (os.zip wy) (by rw [List.length_zip]; omega) (fun Q h => by walk_at "d"; rw [pairD_map]; exact h) (fun z hz N acc hN => ?_) ?_
  · rw [ew] at hz
    obtain ⟨o, ho, rfl⟩ := List.mem_map.mp hz
    obtain ⟨h1, h2⟩ := om o ho
    walk_at "d"
    refine ⟨_, _, rfl, dgOk (Z.yd h1) (by decide), dgOk (Z.yd hm) (by decide), ?_⟩
    walk_at "d"
    refine ⟨_, _, rfl, dgOk (Z.dyd hm h1) (by decide), dgOk (Z.dxd hm h1) (by decide), fun z => absurd z (fun z => h2 (by grind)), fun _ => ?_⟩
    walk_at "d"
    exact hN
  have e1 : (os.zip wy).map (fun z : Mk × Rat => (z.1.2.1 - m.2.1) / z.2) = os.map fun o => (slp m o).1 := by rw [ew, List.map_map]; rfl
  rw [flat_single, e1]
  walk_at "s"
  refine lc_map (fun z : Mk × Rat => PyData.tuple [mk3 z.1, fr z.2]) fr (fun z : Mk × Rat => [(z.1.2.2 : Rat) * absR z.2]) (os.zip wy) (by rw [List.length_zip]; omega) (fun Q h => by walk_at "d"; rw [pairD_map]; exact h) (fun z hz N acc hN => ?_) ?_
  · rw [ew] at hz
    obtain ⟨o, ho, rfl⟩ := List.mem_map.mp hz
    obtain ⟨h1, h2⟩ := om o ho
    walk_at "d"
    refine ⟨_, rfl, ?_⟩
    walk_at "d"
    refine ⟨(o.2.2 : Rat), _, rfl, dgOk (Dg.int (n := 100) (by have := Z.w o h1; omega)) (by decide), dgOk (Z.dxd hm h1).abs (by decide), ?_⟩
    walk_at "d"
    exact hN
  have e2 : (os.zip wy).map (fun z : Mk × Rat => (z.1.2.2 : Rat) * absR z.2) = os.map fun o => (slp m o).2 := by rw [ew, List.map_map]; rfl
  rw [flat_single, e2]
  walk_at "s"
  have ez : (os.map fun o => (slp m o).1).zip (os.map fun o => (slp m o).2) = os.map (slp m) := by
    clear hos ol om c ne k e1 e2 hwy ew
    induction os with
    | nil => rfl
    | cons o os ih => rw [List.map_cons, List.map_cons, List.map_cons, List.zip_cons_cons, ih]
  have hp : ∀ z ∈ os.map (slp m), 0 < z.2 := by rw [← hos]; exact slp_pos Z.w1
  refine ⟨os.map fun o => (slp m o).1, os.map fun o => (slp m o).2, L, rfl, Z.L0, Nat.le_trans Z.L1 (ten_le (by decide)), by rw [List.length_map, List.length_map], by rw [List.length_map]; exact List.length_pos_iff.mpr ne, by rw [List.length_map]; exact ol, fun q hq => ?_, fun v hv => ?_, fun x hx => ?_⟩
  · obtain ⟨o, ho, rfl⟩ := List.mem_map.mp hq
    exact dgOk (Z.slp hm (by rw [hos]; exact ho)) (by decide)
  · obtain ⟨o, ho, rfl⟩ := List.mem_map.mp hv
    refine ⟨hp _ (List.mem_map.mpr ⟨o, ho, rfl⟩), ?_⟩
    have h1 := (Cm.int (i := o.2.2) (B := 10 ^ 100) (by have := Z.w o (om o ho).1; omega)).mul (Z.dx hm (om o ho).1).abs
    exact h1.mono (by rw [Nat.one_mul]; exact Nat.dvd_refl _) (by decide +kernel)
  rw [ez] at hx
  have ex := midF_eq (fun z hz => by have := hp z hz; grind) hx
  rw [ex] at k
  have dx : Dg 405 x := by
    obtain ⟨z, hz, e⟩ := hx.mem
    obtain ⟨o, ho, rfl⟩ := List.mem_map.mp hz
    rw [← e]
    exact Z.slp hm (by rw [hos]; exact ho)
  walk_at "d"
  refine ⟨_, _, rfl, dgOk dx (by decide), dgOk (Z.xd hm) (by decide), ?_⟩
  walk_at "d"
  refine ⟨_, _, rfl, dgOk (Z.yd hm) (by decide), dgOk (dx.mul (Z.xd hm)) (by decide), ?_⟩
  walk_at "d"
  exact k
end
theorem pair_self {α : Type} (f g : α → PyData) : ∀ xs : List α, pairD (xs.map f) (xs.map g) = xs.map fun x => PyData.tuple [f x, g x]
  | [] => by simp [Dl.pairD]
  | x :: xs => by
    have := pair_self f g xs
    simp [Dl.pairD, this]
theorem tri_self {α : Type} (f g h : α → PyData) : ∀ xs : List α, triD (xs.map f) (xs.map g) (xs.map h) = xs.map fun x => PyData.tuple [f x, g x, h x]
  | [] => by simp [Dl.triD]
  | x :: xs => by
    have := tri_self f g h xs
    simp [Dl.triD, this]
theorem num_pos_iff (q : Rat) : 0 < q.num ↔ 0 < q := by
  have h1 := @Rat.num_nonneg (-q)
  have h2 : (-q).num = -q.num := rfl
  rw [h2] at h1
  have h3 : (0 ≤ -q) ↔ ¬ 0 < q := by rw [Rat.not_lt]; constructor <;> intro <;> grind
  rw [h3] at h1
  constructor
  · intro h; exact Decidable.not_not.mp fun z => by have := h1.mpr z; omega
  · intro h; exact Int.not_le.mp fun z => absurd h (h1.mp (by omega))
noncomputable def frI (n : Int) : PyData := fr (n : Rat)
section
variable {P : Program} {w : World} {K : PySem.W.Frag} {mg : Str → Option Value} {base : Heap} {A : Adr}
noncomputable def wEarG : DW := fun ds Q _ => ∃ (ms : List Mk) (r : Mk → Rat), ds = [.list (ms.map mk3), .list (ms.map fun m => fr (r m))] ∧ ms.length ≤ 60 ∧ (∀ m ∈ ms, 1 ≤ m.2.2 ∧ m.2.2 ≤ 10 ^ 100) ∧ Q (.own ((tR (erl r (-fixGS r ms) ms)).map fr))
theorem ok_early_pulls (T : Txt K mg A) : FnOk P w K mg base (CXE P w) 1 A.a_early_pulls A.d_early_pulls ["marks", "misses"] (spW K wEarG) := by
  refine okW T.F_early_pulls sc_early_pulls (fun ds Q E h => ?_) (fun cdv Ar outer s H E hr => ?_)
  · obtain ⟨_, _, rfl, _⟩ := h; rfl
  refine ⟨_, (pss_cons (ps_setLC (i := 2) (cap := [none, none]) (NC := ["mark", "miss"]) sc_early_pulls.nd rfl rfl rfl ⟨rfl, rfl, by decide +kernel, by decide +kernel, trivial, (fun _ h => nomatch h), rfl⟩ (pi_zip (K := K) rfl rfl T.n_zip (pa_cons (pv 0) (pa_cons (pv 1) pa_nil))) (fun _ _ _ _ => (pgtK (K := K) (n := 2) rfl rfl (pgs_cons (pg_name (i := 0) (show List.Nodup (["mark", "miss"] : List Str) by decide) rfl (Or.inl rfl)) (pgs_cons (pg_name (i := 1) (show List.Nodup (["mark", "miss"] : List Str) by decide) rfl (Or.inl rfl)) pgs_nil)))) (fun _ _ _ _ => pts_nil) (fun _ _ _ _ => (pe_ifExp (pt_cmpR op_gt (pe_ix (ixtK (K := K) rfl) (pv 1) pe_int (fun _ _ => rfl)) pe_int (nomark _)) (pe_ix (ixtK (K := K) rfl) (pv 0) pe_int (fun _ _ => rfl)) (pe_un un_neg (pe_ix (ixtK (K := K) rfl) (pv 0) pe_int (fun _ _ => rfl))))))
      (pss_cons (ps_set (i := 3) sc_early_pulls.nd rfl (Or.inl rfl) (pe_un un_neg (pe_callB (sumK (K := K) rfl rfl) rfl T.n_sum bt_sum (pa_cons (pv 2) pa_nil))))
      (pss_cons (ps_set (i := 4) sc_early_pulls.nd rfl (Or.inl rfl) (pe_lst pa_nil))
      (pss_cons (ps_for PassesOwn.leaving rfl (pi_zip3 (K := K) rfl rfl T.n_zip (pa_cons (pv 0) (pa_cons (pv 1) (pa_cons (pv 2) pa_nil)))) (pgtK (K := K) (n := 3) rfl rfl (pgs_cons (pg_name (i := 5) sc_early_pulls.nd rfl (Or.inl rfl)) (pgs_cons (pg_name (i := 6) sc_early_pulls.nd rfl (Or.inl rfl)) (pgs_cons (pg_name (i := 7) sc_early_pulls.nd rfl (Or.inl rfl)) pgs_nil))))
        (pss_cons (ps_set (i := 8) sc_early_pulls.nd rfl (Or.inl rfl) (pe_ifExp (pt_cmpR (eqK (K := K) rfl hr.units) (pv 6) (pe_glob rfl T.c_NOUGHT (show RelV (.ref _) (.ref _) from rfl)) (nomark _)) (pe_callB (call_min2 rfl) rfl T.n_min bt_min (pa_cons (pv 3) (pa_cons (pe_op op_mulB pe_int (pe_ix (ixtK (K := K) rfl) (pv 5) pe_int (fun _ _ => rfl))) pa_nil))) pe_int))
      (pss_cons (ps_set (i := 3) sc_early_pulls.nd rfl (Or.inl rfl) (pe_op op_sub (pv 3) (pv 8)))
      (pss_one (ps_expr (pe_bm PySem.F.plainAttrs_list PySem.F.slot_list_append PySem.F.type_list_append mt_append (pv 4) (pa_cons (pe_tup (pa_cons (pe_op op_add (pv 7) (pv 8)) (pa_cons pe_int pa_nil))) pa_nil)))))))
      (pss_one (ps_ret (pv 4))))))), _, (sv_seq (sv_setO 2 (ov_lc (ie_zip (lv_var 0) (lv_var 1)) (gv_tup (gs_cons (gv_name 0) (gs_cons (gv_name 1) gs_nil))) tv_yes (ev_if (tv_test (bv_ev (ev_op ro_b0 (bv_ev (ev_ixk 0 (ev_var 1))) (bv_ev ev_int)))) (ev_ixk 2 (ev_var 0)) (ev_neg (bv_ev (ev_ixk 2 (ev_var 0))))) (by decide) (by decide)))
      (sv_seq (sv_asg (ev_neg (bv_ev (ev_cb rb_sum (av_cons (bv_var 2) av_nil)))) (gv_name 3))
      (sv_seq (sv_setO 4 (ov_lst ae_nil (by decide)))
      (sv_seq (sv_frz 2 (sv_for (is_zip3 (ev_var 0) (ev_var 1) (ev_var 2)) (gv_tup (gs_cons (gv_name 5) (gs_cons (gv_name 6) (gs_cons (gv_name 7) gs_nil))))
        (sv_cut (sv_asg (ev_if (tv_test (bv_ev (ev_op ro_eqD (bv_var 6) (bv_ev (ev_c T.k_NOUGHT))))) (ev_cb rb_min (av_cons (bv_var 3) (av_cons (bv_ev (ev_op ro_i (bv_ev ev_int) (bv_ev (ev_ixk 2 (ev_var 5))))) av_nil))) ev_int) (gv_name 8))
      (sv_seq (sv_asg (ev_op ro_i0 (bv_var 3) (bv_var 8)) (gv_name 3))
      (sv_app 4 (ev_tup (ae_cons (ev_op ro_i0 (bv_var 7) (bv_var 8)) (ae_cons ev_int ae_nil)) (by decide)))))))
      (sv_retV 4))))), ?_⟩
  rintro ds Q X ⟨ms, r, rfl, n60, hw, k⟩
  walk_at "s"
  refine lc_map (fun m : Mk => PyData.tuple [mk3 m, fr (r m)]) PyData.int (fun m : Mk => [fixG r m]) ms (by omega) (fun Q h => by
      walk_at "d"
      rw [pair_self]; exact h) (fun m h N acc hN => ?_) ?_
  · walk_at "d"
    unfold fixG at hN
    refine ite2 (fun c => ?_) (fun c => ?_)
    · rw [if_pos ((num_pos_iff _).mp c)] at hN
      exact hN
    · rw [if_neg (fun z => c ((num_pos_iff _).mpr z))] at hN
      exact hN
  rw [flat_single]
  walk_at "s"
  refine ⟨ms.map (fixG r), rfl, ?_⟩
  rw [fixGS_sum]
  walk_at "s"
  generalize hL : -fixGS r ms = L0 at *
  refine seq_mk (for_map (fun m : Mk => PyData.tuple [mk3 m, fr (r m), .int (fixG r m)]) ms (fun Q h => by
      walk_at "d"
      rw [List.map_map, tri_self]; exact h)
    (fun i δ => ∃ (left : Int) (ps : List Int) (t1 t2 t3 t4 : Option Sl), δ = [some (.dat (.list (ms.map mk3))), some (.dat (.list (ms.map fun m => fr (r m)))), some (.dat (.list ((ms.map (fixG r)).map .int))), some (.dat (.int left)), some (.own (ps.map frI)), t1, t2, t3, t4] ∧ erl r L0 ms = ps ++ erl r left (ms.drop i) ∧ ps.length = i)
    ⟨L0, [], _, _, _, _, rfl, rfl, rfl⟩ ?_ ?_)
  · rintro i m δ hi ⟨left, ps, t1, t2, t3, t4, rfl, he, hl⟩
    have hi2 := (List.getElem?_eq_some_iff.mp hi).1
    have hm := hw m (List.mem_of_getElem? hi)
    have ed : ms.drop i = m :: ms.drop (i + 1) := by
      rw [List.drop_eq_getElem_cons hi2]
      congr 1
      exact (List.getElem?_eq_some_iff.mp hi).2
    rw [ed, erl] at he
    obtain ⟨u, hu⟩ : ∃ u, upG r left m = u := ⟨_, rfl⟩
    rw [hu] at he
    walk_at "d"
    refine cut_mk (fun δ => δ = [some (.dat (.list (ms.map mk3))), some (.dat (.list (ms.map fun m => fr (r m)))), some (.dat (.list ((ms.map (fixG r)).map .int))), some (.dat (.int left)), some (.own (ps.map frI)), some (.dat (mk3 m)), some (.dat (fr (r m))), some (.dat (.int (fixG r m))), some (.dat (.int u))]) ?_ ?_
    · walk_at "d"
      refine ⟨Rat, eRat, r m, 0, rfl, rfl, fun b hb => ?_⟩
      unfold upG at hu
      cases b with
      | true =>
        rw [if_pos (hb.mp rfl)] at hu
        walk_at "d"
        refine ⟨mulOk (wee (by decide +kernel)) (weeLe (n := 10 ^ 100) (by omega) (by decide +kernel)), ?_⟩
        rw [hu]
      | false =>
        rw [if_neg (fun z => by have := hb.mpr z; cases this)] at hu
        walk_at "d"
        rw [hu]
    rintro δ rfl
    walk_at "s"
    refine ⟨by omega, left - u, ps ++ [fixG r m + u], _, _, _, _, by rw [List.map_append]; rfl, by rw [he, List.append_assoc]; rfl, by rw [List.length_append, hl]; rfl⟩
  · rintro δ ⟨left, ps, t1, t2, t3, t4, rfl, he, hl⟩
    rw [List.drop_length, erl, List.append_nil] at he
    walk_at "d"
    rw [← he]
    unfold tR at k
    rw [List.map_map] at k
    exact k
end
theorem fair_int {r : Mk → Rat} {A : List Mk} {left : Int} (h : 0 ≤ left) (hw : ∀ m ∈ A, 1 ≤ m.2.2 ∧ m.2.2 ≤ 10 ^ 100) : ∀ p ∈ tR (erl r left A), Cm 1 (10 ^ 100) p := by
  have g : ∀ (A : List Mk) (left : Int), 0 ≤ left → (∀ m ∈ A, 1 ≤ m.2.2 ∧ m.2.2 ≤ 10 ^ 100) → ∀ n ∈ erl r left A, n.natAbs ≤ 10 ^ 100 := fun A => by
    induction A with
    | nil => intro left _ _ n h; exact nomatch h
    | cons m A ih =>
      intro left h hw n hn
      have hm := hw m List.mem_cons_self
      obtain ⟨u0, u1⟩ := upG_nn (r := r) h hm.1
      rw [erl] at hn
      rcases List.mem_cons.mp hn with rfl | hn
      · unfold fixG upG
        by_cases c : 0 < r m
        · rw [if_pos c, if_neg (show r m ≠ 0 by grind)]; omega
        · rw [if_neg c]
          by_cases d : r m = 0
          · rw [if_pos d]; split <;> omega
          · rw [if_neg d]; omega
      · exact ih _ (by omega) (fun x hx => hw x (List.mem_cons_of_mem _ hx)) n hn
  intro p hp
  obtain ⟨n, hn, rfl⟩ := List.mem_map.mp hp
  exact Cm.int (g A left h hw n hn)
theorem trn_cm {L : Nat} {ms : List Mk} (Z : LSz L ms) {ps : List Rat} (hp : ∀ p ∈ ps, Cm 1 (10 ^ 100) p) (i : Nat) : Cm L (10 ^ 202) (tot ((List.zipWith (fun (m : Mk) p => m.1 * p) ms ps).take i)) := by
  have h := Cm.tot (qs := (List.zipWith (fun (m : Mk) p => m.1 * p) ms ps).take i) (L := L) (B := 10 ^ 200) fun q hq => by
    have hq' := List.mem_of_mem_take hq
    rw [← zw_map (fun m => m.1)] at hq'
    obtain ⟨z, hz, rfl⟩ := List.mem_map.mp hq'
    obtain ⟨h1, h2⟩ := List.of_mem_zip (a := z.1) (b := z.2) hz
    exact ((Z.x _ h1).mul (hp _ h2)).mono (by rw [Nat.mul_one]; exact Nat.dvd_refl _) (by decide +kernel)
  have l : ((List.zipWith (fun (m : Mk) p => m.1 * p) ms ps).take i).length ≤ 60 := by
    rw [List.length_take, List.length_zipWith]; have := Z.n60; omega
  exact h.mono (Nat.dvd_refl _) (Nat.le_trans (Nat.mul_le_mul_right _ l) (by decide +kernel))
section
variable {P : Program} {w : World} {K : PySem.W.Frag} {mg : Str → Option Value} {base : Heap} {A : Adr}
noncomputable def wTurn : DW := fun ds Q _ => ∃ (ms : List Mk) (ps : List Rat) (L : Nat), ds = [.list (ms.map mk3), .list (ps.map fr)] ∧ LSz L ms ∧ (∀ p ∈ ps, Cm 1 (10 ^ 100) p) ∧ Q (.dat (fr (trn ms ps)))
theorem ok_turn_of (T : Txt K mg A) : FnOk P w K mg base (CXE P w) 4 A.a_turn_of A.d_turn_of ["marks", "pulls"] (spW K wTurn) := by
  have G_product := ok_product (P := P) (w := w) (base := base) T
  have G_total_of := ok_total_of (P := P) (w := w) (base := base) T
  refine okW T.F_turn_of sc_turn_of (fun ds Q E h => ?_) (fun cdv Ar outer s H E hr => ?_)
  · obtain ⟨_, _, _, rfl, _⟩ := h; rfl
  refine ⟨_, (pss_one (ps_ret (pe_call G_total_of (hr.mono (by decide)) rfl T.m_total_of T.F_total_of.kp T.b_total_of .nil passE0 (pa_cons (pe_lc (cap := [none, none]) (NC := ["mark", "pull"]) rfl ⟨rfl, rfl, by decide +kernel, by decide +kernel, trivial, (fun _ h => nomatch h), rfl⟩ (pi_zip (K := K) rfl rfl T.n_zip (pa_cons (pv 0) (pa_cons (pv 1) pa_nil))) (fun _ _ _ _ => (pgtK (K := K) (n := 2) rfl rfl (pgs_cons (pg_name (i := 0) (show List.Nodup (["mark", "pull"] : List Str) by decide) rfl (Or.inl rfl)) (pgs_cons (pg_name (i := 1) (show List.Nodup (["mark", "pull"] : List Str) by decide) rfl (Or.inl rfl)) pgs_nil)))) (fun _ _ _ _ => pts_nil) (fun _ _ _ _ => (pe_call G_product (hr.mono (by decide)) rfl T.m_product T.F_product.kp T.b_product .nil passE0 (pa_cons (pe_ix (ixtK (K := K) rfl) (pv 0) pe_int (fun _ _ => rfl)) (pa_cons (pv 1) pa_nil))))) pa_nil)))), _, (sv_ret (bv_ev (ev_call0 (av_cons (bv_ev (ev_ov (ov_lc (ie_zip (lv_var 0) (lv_var 1)) (gv_tup (gs_cons (gv_name 0) (gs_cons (gv_name 1) gs_nil))) tv_yes (ev_call0 (av_cons (bv_ev (ev_ixk 0 (ev_var 0))) (av_cons (bv_var 1) av_nil))) (by decide) (by decide)))) av_nil)))), ?_⟩
  rintro ds Q X ⟨ms, ps, L, rfl, Z, hp, k⟩
  have n60 := Z.n60
  have pd : ∀ p ∈ ps, Dg 101 p := fun p h => (hp p h).dg (by decide) (l := 0) (by decide) (b := 100) (Nat.le_refl _)
  walk_at "d"
  refine lc_map (fun z : Mk × Rat => PyData.tuple [mk3 z.1, fr z.2]) fr (fun z : Mk × Rat => [z.1.1 * z.2]) (ms.zip ps) (by rw [List.length_zip]; omega) (fun Q h => by walk_at "d"; rw [pairD_map]; exact h) (fun z hz N acc hN => ?_) ?_
  · obtain ⟨h1, h2⟩ := List.of_mem_zip (a := z.1) (b := z.2) hz
    walk_at "d"
    refine ⟨_, _, rfl, dgOk (Z.xd h1) (by decide), dgOk (pd _ h2) (by decide), ?_⟩
    walk_at "d"
    exact hN
  rw [flat_single, zw_map (fun m => m.1)]
  refine ⟨_, rfl, fun q hq => ?_, fun i => dgOk ((trn_cm Z hp i).dg Z.L0 Z.L1 (b := 202) (Nat.le_refl _)) (by decide), ?_⟩
  · rw [← zw_map (fun m => m.1)] at hq
    obtain ⟨z, hz, rfl⟩ := List.mem_map.mp hq
    obtain ⟨h1, h2⟩ := List.of_mem_zip (a := z.1) (b := z.2) hz
    exact dgOk ((Z.xd h1).mul (pd _ h2)) (by decide)
  walk_at "d"
  exact k
noncomputable def wLPulls : DW := fun ds Q _ => ∃ (ms : List Mk) (l : Ln) (L : Nat), ds = [.list (ms.map mk3), .list [fr l.1, fr l.2]] ∧ LSz L ms ∧ LnSz L ms l ∧ FairL (rr l) ms (earL l ms) ∧ (0 ≤ -fixGS (rr l) ms) ∧ (0 ≤ -fixGS (rr l) ms.reverse) ∧ Q (.own ((pulL l ms).map fr))
theorem ok_line_pulls (T : Txt K mg A) : FnOk P w K mg base (CXE P w) 6 A.a_line_pulls A.d_line_pulls ["marks", "line"] (spW K wLPulls) := by
  have G_row_of := ok_row_of (P := P) (w := w) (base := base) T
  have G_misses_of := ok_misses_of (P := P) (w := w) (base := base) T
  have G_early_pulls := ok_early_pulls (P := P) (w := w) (base := base) T
  have G_turn_of := ok_turn_of (P := P) (w := w) (base := base) T
  have G_quotient := ok_quotient (P := P) (w := w) (base := base) T
  have G_minus := ok_minus (P := P) (w := w) (base := base) T
  have G_plus := ok_plus (P := P) (w := w) (base := base) T
  have G_product := ok_product (P := P) (w := w) (base := base) T
  refine okW T.F_line_pulls sc_line_pulls (fun ds Q E h => ?_) (fun cdv Ar outer s H E hr => ?_)
  · obtain ⟨_, _, _, rfl, _⟩ := h; rfl
  refine ⟨_, (pss_cons (ps_set (i := 2) sc_line_pulls.nd rfl (Or.inl rfl) (pe_call G_misses_of (hr.mono (by decide)) rfl T.m_misses_of T.F_misses_of.kp T.b_misses_of .nil passE0 (pa_cons (pv 0) (pa_cons (pe_call G_row_of (hr.mono (by decide)) rfl T.m_row_of T.F_row_of.kp T.b_row_of .nil passE0 (pa_cons (pv 1) (pa_cons (pv 0) pa_nil))) pa_nil))))
      (pss_cons (ps_set (i := 3) sc_line_pulls.nd rfl (Or.inl rfl) (pe_call G_early_pulls (hr.mono (by decide)) rfl T.m_early_pulls T.F_early_pulls.kp T.b_early_pulls .nil passE0 (pa_cons (pv 0) (pa_cons (pv 2) pa_nil))))
      (pss_cons (ps_set (i := 4) sc_line_pulls.nd rfl (Or.inl rfl) (pe_back (K := K) rfl (pe_call G_early_pulls (hr.mono (by decide)) rfl T.m_early_pulls T.F_early_pulls.kp T.b_early_pulls .nil passE0 (pa_cons (pe_back (K := K) rfl (pv 0) (po_some (pe_un un_neg pe_int))) (pa_cons (pe_back (K := K) rfl (pv 2) (po_some (pe_un un_neg pe_int))) pa_nil))) (po_some (pe_un un_neg pe_int))))
      (pss_cons (ps_set (i := 5) sc_line_pulls.nd rfl (Or.inl rfl) (pe_call G_turn_of (hr.mono (by decide)) rfl T.m_turn_of T.F_turn_of.kp T.b_turn_of .nil passE0 (pa_cons (pv 0) (pa_cons (pv 3) pa_nil))))
      (pss_cons (ps_set (i := 6) sc_line_pulls.nd rfl (Or.inl rfl) (pe_call G_turn_of (hr.mono (by decide)) rfl T.m_turn_of T.F_turn_of.kp T.b_turn_of .nil passE0 (pa_cons (pv 0) (pa_cons (pv 4) pa_nil))))
      (pss_cons (ps_if (pt_cmpR (eqK (K := K) rfl hr.units) (pv 5) (pv 6) (nomark _)) (pss_one (ps_ret (pv 3))) pss_nil)
      (pss_cons (ps_set (i := 7) sc_line_pulls.nd rfl (Or.inr rfl) (pe_call G_quotient (hr.mono (by decide)) rfl T.m_quotient T.F_quotient.kp T.b_quotient .nil passE0 (pa_cons (pv 5) (pa_cons (pe_call G_minus (hr.mono (by decide)) rfl T.m_minus T.F_minus.kp T.b_minus .nil passE0 (pa_cons (pv 5) (pa_cons (pv 6) pa_nil))) pa_nil))))
      (pss_one (ps_ret (pe_lc (cap := [none, none, some 7]) (NC := ["one", "other", "part"]) rfl ⟨rfl, rfl, by decide +kernel, by decide +kernel, ⟨⟨_, rfl, rfl, rfl, rfl, rfl⟩, trivial⟩, (List.forall_mem_cons.2 ⟨rfl, (fun _ h => nomatch h)⟩), rfl⟩ (pi_zip (K := K) rfl rfl T.n_zip (pa_cons (pv 3) (pa_cons (pv 4) pa_nil))) (fun _ _ _ _ => (pgtK (K := K) (n := 2) rfl rfl (pgs_cons (pg_name (i := 0) (show List.Nodup (["one", "other", "part"] : List Str) by decide) rfl (Or.inl rfl)) (pgs_cons (pg_name (i := 1) (show List.Nodup (["one", "other", "part"] : List Str) by decide) rfl (Or.inl rfl)) pgs_nil)))) (fun _ _ _ _ => pts_nil) (fun _ _ _ _ => (pe_call G_plus (hr.mono (by decide)) rfl T.m_plus T.F_plus.kp T.b_plus .nil passE0 (pa_cons (pv 0) (pa_cons (pe_call G_product (hr.mono (by decide)) rfl T.m_product T.F_product.kp T.b_product .nil passE0 (pa_cons (pv 2) (pa_cons (pe_call G_minus (hr.mono (by decide)) rfl T.m_minus T.F_minus.kp T.b_minus .nil passE0 (pa_cons (pv 1) (pa_cons (pv 0) pa_nil))) pa_nil))) pa_nil)))))))))))))), _, (sv_seq (sv_setO 2 (ov_call0 (av_cons (bv_var 0) (av_cons (bv_ev (ev_ov (ov_call0 (av_cons (bv_var 1) (av_cons (bv_var 0) av_nil))))) av_nil))))
      (sv_seq (sv_setO 3 (ov_call0 (av_cons (bv_var 0) (av_cons (bv_var 2) av_nil))))
      (sv_seq (sv_setO 4 (ov_back (lv_ov (ov_call0 (av_cons (bv_ev (ev_ov (ov_back (lv_var 0) (op_part (bv_ev (ev_k (v := (-1)) (ev_neg (bv_ev ev_int)) (fun ex δ Q h => Eq.mpr (congrArg (fun z => Q (.int z)) (by decide +kernel : ((-1) : Int) = -1)) h))))))) (av_cons (bv_ev (ev_ov (ov_back (lv_var 2) (op_part (bv_ev (ev_k (v := (-1)) (ev_neg (bv_ev ev_int)) (fun ex δ Q h => Eq.mpr (congrArg (fun z => Q (.int z)) (by decide +kernel : ((-1) : Int) = -1)) h))))))) av_nil)))) (op_part (bv_ev (ev_k (v := (-1)) (ev_neg (bv_ev ev_int)) (fun ex δ Q h => Eq.mpr (congrArg (fun z => Q (.int z)) (by decide +kernel : ((-1) : Int) = -1)) h))))))
      (sv_seq (sv_asg (ev_call0 (av_cons (bv_var 0) (av_cons (bv_var 3) av_nil))) (gv_name 5))
      (sv_seq (sv_asg (ev_call0 (av_cons (bv_var 0) (av_cons (bv_var 4) av_nil))) (gv_name 6))
      (sv_seq (sv_if (tv_test (bv_ev (ev_op ro_eqD (bv_var 5) (bv_var 6)))) (sv_retV 3) sv_next)
      (sv_seq (sv_asg (ev_call0 (av_cons (bv_var 5) (av_cons (bv_ev (ev_call0 (av_cons (bv_var 5) (av_cons (bv_var 6) av_nil)))) av_nil))) (gv_name 7))
      (sv_retO (ov_lc (ie_zip (lv_var 3) (lv_var 4)) (gv_tup (gs_cons (gv_name 0) (gs_cons (gv_name 1) gs_nil))) tv_yes (ev_call0 (av_cons (bv_var 0) (av_cons (bv_ev (ev_call0 (av_cons (bv_var 2) (av_cons (bv_ev (ev_call0 (av_cons (bv_var 1) (av_cons (bv_var 0) av_nil)))) av_nil)))) av_nil))) (by decide) (by decide)))))))))), ?_⟩
  rintro ds Q X ⟨ms, l, L, rfl, Z, lz, fe, f1, f2, k⟩
  have n60 := Z.n60
  obtain ⟨M, mz⟩ := lz.msz Z
  walk_at "s"
  refine ⟨[l.1, l.2], ms, 809, 201, rfl, (show 2 ≤ 60 by decide), by omega, fun n hn => ?_, fun m h => Z.xd h, (show 2 * (809 + 201 + 2) ≤ 2300 by decide), ?_⟩
  · simp only [List.mem_cons, List.not_mem_nil, or_false] at hn
    rcases hn with rfl | rfl
    · exact lz.a
    · exact lz.s.mono (by decide)
  walk_at "d"
  refine ⟨frs_flat _, ?_⟩
  refine ⟨ms, _, rfl, by omega, mz.hOk, mz.rOk, ?_⟩
  walk_at "d"
  refine ⟨frs_flat _, ?_⟩
  have em : missR ms (ms.map fun m => hgt [l.1, l.2] m.1) = ms.map (rr l) := by
    rw [miss_map]
    exact List.map_congr_left fun m _ => by rw [hgt2]; rfl
  rw [em]
  have em2 : (ms.map (rr l)).map fr = ms.map fun m => fr (rr l m) := by rw [List.map_map]; rfl
  rw [em2]
  walk_at "s"
  refine ⟨ms, rr l, rfl, n60, Z.w, ?_⟩
  walk_at "d"
  refine ⟨frs_flat _, ?_⟩
  walk_at "s"
  refine ⟨ms.reverse, rr l, by rw [List.map_reverse, List.map_reverse], by rw [List.length_reverse]; exact n60, fun m hm => Z.w m (List.mem_reverse.mp hm), ?_⟩
  walk_at "d"
  refine ⟨frs_flat _, ?_⟩
  rw [← List.map_reverse]
  obtain ⟨ea, hea⟩ : ∃ ea, tR (erl (rr l) (-fixGS (rr l) ms) ms) = ea := ⟨_, rfl⟩
  obtain ⟨la, hla⟩ : ∃ la, (tR (erl (rr l) (-fixGS (rr l) ms.reverse) ms.reverse)).reverse = la := ⟨_, rfl⟩
  have ea' : earL l ms = ea := hea
  have la' : latL l ms = la := hla
  have ce : ∀ p ∈ ea, Cm 1 (10 ^ 100) p := by rw [← hea]; exact fair_int f1 Z.w
  have cl : ∀ p ∈ la, Cm 1 (10 ^ 100) p := by
    rw [← hla]
    intro p hp
    exact fair_int f2 (fun m hm => Z.w m (List.mem_reverse.mp hm)) p (List.mem_reverse.mp hp)
  rw [hea, hla]
  unfold pulL at k
  rw [ea', la'] at k
  walk_at "s"
  refine ⟨ms, ea, L, rfl, Z, ce, ?_⟩
  walk_at "d"
  walk_at "s"
  refine ⟨ms, la, L, rfl, Z, cl, ?_⟩
  walk_at "d"
  obtain ⟨te, hte⟩ : ∃ te, trn ms ea = te := ⟨_, rfl⟩
  obtain ⟨tl, htl⟩ : ∃ tl, trn ms la = tl := ⟨_, rfl⟩
  have dt : ∀ {ps : List Rat}, (∀ p ∈ ps, Cm 1 (10 ^ 100) p) → Dg 303 (trn ms ps) := fun {ps} hp => by
    have h := trn_cm Z hp (List.zipWith (fun (m : Mk) p => m.1 * p) ms ps).length
    rw [List.take_length] at h
    exact h.dg Z.L0 Z.L1 (b := 202) (Nat.le_refl _)
  have dte := dt ce
  have dtl := dt cl
  rw [hte] at k dte ⊢
  rw [htl] at k dtl ⊢
  walk_at "s"
  refine ⟨Rat, eRat, te, tl, rfl, rfl, fun v hv => ?_⟩
  cases v with
  | true =>
    rw [if_pos (hv.mp rfl)] at k
    walk_at "d"
    exact k
  | false =>
    have ne : te ≠ tl := fun z => by have := hv.mpr z; cases this
    rw [if_neg ne] at k
    have dm : Dg 607 (te - tl) := dte.sub dtl
    have n0 : te - tl ≠ 0 := fun z => ne (by grind)
    have dp : Dg 911 (te / (te - tl)) := dte.div dm n0
    walk_at "d"
    walk_at "s"
    refine ⟨te, tl, rfl, dgOk dte (by decide), dgOk dtl (by decide), ?_⟩
    walk_at "d"
    refine ⟨_, _, rfl, dgOk dte (by decide), dgOk dm (by decide), fun z => absurd z n0, fun _ => ?_⟩
    walk_at "d"
    have eel : ea.length = ms.length := by rw [← ea']; exact fe.len
    refine lc_map (fun z : Rat × Rat => PyData.tuple [fr z.1, fr z.2]) fr (fun z : Rat × Rat => [z.1 + te / (te - tl) * (z.2 - z.1)]) (ea.zip la) (by rw [List.length_zip]; omega) (fun Q h => by walk_at "d"; rw [pairD_map]; exact h) (fun z hz N acc hN => ?_) ?_
    · obtain ⟨h1, h2⟩ := List.of_mem_zip (a := z.1) (b := z.2) hz
      have d1 : Dg 101 z.1 := (ce _ h1).dg (by decide) (l := 0) (by decide) (b := 100) (Nat.le_refl _)
      have d2 : Dg 101 z.2 := (cl _ h2).dg (by decide) (l := 0) (by decide) (b := 100) (Nat.le_refl _)
      walk_at "d"
      refine ⟨_, _, rfl, dgOk d2 (by decide), dgOk d1 (by decide), ?_⟩
      walk_at "d"
      refine ⟨_, _, rfl, dgOk dp (by decide), dgOk (d2.sub d1) (by decide), ?_⟩
      walk_at "d"
      refine ⟨_, _, rfl, dgOk d1 (by decide), dgOk (dp.mul (d2.sub d1)) (by decide), ?_⟩
      walk_at "d"
      exact hN
    have ez : (ea.zip la).map (fun z : Rat × Rat => z.1 + te / (te - tl) * (z.2 - z.1)) = List.zipWith (fun a b => a + te / (te - tl) * (b - a)) ea la := by
      clear k hea hla ea' la' ce cl hte htl eel
      induction ea generalizing la with
      | nil => rfl
      | cons a ea ih => cases la with
        | nil => rfl
        | cons b la => rw [List.zip_cons_cons, List.map_cons, List.zipWith_cons_cons, ih]
    rw [flat_single, ez]
    exact k
noncomputable def wLSum : DW := fun ds Q _ => ∃ (ms : List Mk) (L : Nat), ds = [.list (ms.map mk3)] ∧ LSz L ms ∧ Q (.two [fr (bestL ms).1, fr (bestL ms).2] ((pulL (bestL ms) ms).map fr))
theorem ok_line_sum (T : Txt K mg A) : FnOk P w K mg base (CXE P w) 7 A.a_line_sum A.d_line_sum ["marks"] (spW K wLSum) := by
  have G_line_at := ok_line_at (P := P) (w := w) (base := base) T
  have G_row_of := ok_row_of (P := P) (w := w) (base := base) T
  have G_measured := ok_measured (P := P) (w := w) (base := base) T
  have G_is_less := ok_is_less (P := P) (w := w) (base := base) T
  have G_line_pulls := ok_line_pulls (P := P) (w := w) (base := base) T
  refine okW T.F_line_sum sc_line_sum (fun ds Q E h => ?_) (fun cdv Ar outer s H E hr => ?_)
  · obtain ⟨_, _, rfl, _⟩ := h; rfl
  refine ⟨_, (pss_cons (ps_set (i := 1) sc_line_sum.nd rfl (Or.inl rfl) (pe_call G_line_at (hr.mono (by decide)) rfl T.m_line_at T.F_line_at.kp T.b_line_at .nil passE0 (pa_cons (pv 0) (pa_cons (pe_ix (ixlK (K := K) rfl) (pv 0) pe_int (fun _ _ => rfl)) pa_nil))))
      (pss_cons (ps_set (i := 2) sc_line_sum.nd rfl (Or.inl rfl) (pe_call G_measured (hr.mono (by decide)) rfl T.m_measured T.F_measured.kp T.b_measured .nil passE0 (pa_cons pe_str (pa_cons (pv 0) (pa_cons (pe_call G_row_of (hr.mono (by decide)) rfl T.m_row_of T.F_row_of.kp T.b_row_of .nil passE0 (pa_cons (pv 1) (pa_cons (pv 0) pa_nil))) pa_nil)))))
      (pss_cons (ps_for PassesOwn.leaving rfl (pilK (K := K) rfl (pe_slice (sllK (K := K) rfl) (pv 0) (po_some pe_int) po_none)) (pg_name (i := 3) sc_line_sum.nd rfl (Or.inl rfl))
        (pss_cons (ps_set (i := 4) sc_line_sum.nd rfl (Or.inl rfl) (pe_call G_line_at (hr.mono (by decide)) rfl T.m_line_at T.F_line_at.kp T.b_line_at .nil passE0 (pa_cons (pv 0) (pa_cons (pv 3) pa_nil))))
      (pss_cons (ps_set (i := 5) sc_line_sum.nd rfl (Or.inl rfl) (pe_call G_measured (hr.mono (by decide)) rfl T.m_measured T.F_measured.kp T.b_measured .nil passE0 (pa_cons pe_str (pa_cons (pv 0) (pa_cons (pe_call G_row_of (hr.mono (by decide)) rfl T.m_row_of T.F_row_of.kp T.b_row_of .nil passE0 (pa_cons (pv 4) (pa_cons (pv 0) pa_nil))) pa_nil)))))
      (pss_one (ps_if (pt_val (pe_call G_is_less (hr.mono (by decide)) rfl T.m_is_less T.F_is_less.kp T.b_is_less .nil passE0 (pa_cons (pv 5) (pa_cons (pv 2) pa_nil)))) (pss_cons (ps_set (i := 1) sc_line_sum.nd rfl (Or.inl rfl) (pv 4))
      (pss_one (ps_set (i := 2) sc_line_sum.nd rfl (Or.inl rfl) (pv 5)))) pss_nil)))))
      (pss_one (ps_ret (pe_tup (pa_cons (pv 1) (pa_cons (pe_call G_line_pulls (hr.mono (by decide)) rfl T.m_line_pulls T.F_line_pulls.kp T.b_line_pulls .nil passE0 (pa_cons (pv 0) (pa_cons (pv 1) pa_nil))) pa_nil)))))))), _, (sv_seq (sv_setO 1 (ov_call0 (av_cons (bv_var 0) (av_cons (bv_ev (ev_ixl (lv_var 0) (bv_ev ev_int))) av_nil))))
      (sv_seq (sv_asg (ev_call0 (av_cons (bv_ev ev_str) (av_cons (bv_var 0) (av_cons (bv_ev (ev_ov (ov_call0 (av_cons (bv_var 1) (av_cons (bv_var 0) av_nil))))) av_nil)))) (gv_name 2))
      (sv_seq (sv_for (is_list (ev_ov (ov_sl (lv_var 0) (op_part (bv_ev ev_int)) op_no))) (gv_name 3)
        (sv_seq (sv_setO 4 (ov_call0 (av_cons (bv_var 0) (av_cons (bv_var 3) av_nil))))
      (sv_seq (sv_asg (ev_call0 (av_cons (bv_ev ev_str) (av_cons (bv_var 0) (av_cons (bv_ev (ev_ov (ov_call0 (av_cons (bv_var 4) (av_cons (bv_var 0) av_nil))))) av_nil)))) (gv_name 5))
      (sv_if (tv_b (bv_ev (ev_call0 (av_cons (bv_var 5) (av_cons (bv_var 2) av_nil))))) (sv_seq (sv_mv 1 4 (by decide))
      (sv_asg (ev_var 5) (gv_name 2))) sv_next))))
      (sv_ret2 (o2_vn 1 (ov_call0 (av_cons (bv_var 0) (av_cons (bv_var 1) av_nil)))))))), ?_⟩
  rintro ds Q X ⟨ms, L, rfl, Z, k⟩
  have n60 := Z.n60
  have n1 := Z.n1
  have rowC : ∀ {l : Ln} {m : Mk} {Qs : Sl → Prop} {Xs : Addr → Prop}, m ∈ ms → l = lineAt ms m → Qs (.own ((ms.map fun m => hgt [l.1, l.2] m.1).map fr)) → wRowOf [.list [fr l.1, fr l.2], .list (ms.map mk3)] Qs Xs := fun {l m Qs Xs} hm e h => by
    obtain ⟨h1, h2⟩ := lineAt_dg Z hm
    have lz := lnSz_of Z hm h1 h2
    rw [← e] at lz
    refine ⟨[l.1, l.2], ms, 809, 201, rfl, (show 2 ≤ 60 by decide), by omega, fun n hn => ?_, fun m h => Z.xd h, (show 2 * (809 + 201 + 2) ≤ 2300 by decide), h⟩
    simp only [List.mem_cons, List.not_mem_nil, or_false] at hn
    rcases hn with rfl | rfl
    · exact lz.a
    · exact lz.s.mono (by decide)
  have meaC : ∀ {l : Ln} {m : Mk} {Qs : Sl → Prop}, m ∈ ms → l = lineAt ms m → Qs (.dat (fr (FS ms l))) → wMeas A.x_NoKind [.str "sum", .list (ms.map mk3), .list ((ms.map fun m => hgt [l.1, l.2] m.1).map fr)] Qs fun _ => False := fun {l m Qs} hm e h => by
    obtain ⟨h1, h2⟩ := lineAt_dg Z hm
    have lz := lnSz_of Z hm h1 h2
    rw [← e] at lz
    obtain ⟨M, mz⟩ := lz.msz Z
    refine ⟨.str "sum", ms, _, _, _, _, _, _, _, rfl, mz, Z.ne, by rw [List.length_map], fun kd hk => by cases hk; decide +kernel, fun kd hk _ => ?_, fun hx => absurd (show ("sum" : Str) ∈ kdsL by simp [kdsL]) (hx "sum" rfl)⟩
    cases hk
    rw [FS_meas Z.w1]
    exact h
  have fsOk : ∀ {m : Mk}, m ∈ ms → Ok (FS ms (lineAt ms m)) := fun {m} hm => by
    obtain ⟨h1, h2⟩ := lineAt_dg Z hm
    obtain ⟨M, mz⟩ := (lnSz_of Z hm h1 h2).msz Z
    rw [← FS_meas Z.w1]
    exact mz.measOk
  obtain ⟨m0, A0, e0⟩ : ∃ m0 A0, ms = m0 :: A0 := by
    cases ms with
    | nil => exact absurd rfl Z.ne
    | cons m A => exact ⟨m, A, rfl⟩
  have m0m : m0 ∈ ms := by rw [e0]; exact List.mem_cons_self
  have Am : ∀ m ∈ A0, m ∈ ms := fun m h => by rw [e0]; exact List.mem_cons_of_mem _ h
  have eb : bestL ms = bestG ms (lineAt ms m0) A0 := by rw [e0]; rfl
  walk_at "s"
  refine ⟨mk3 m0, show atI (ms.map mk3) ((0 : Nat) : Int) = _ from atI_nat (by rw [e0]; rfl), ?_⟩
  refine ⟨ms, m0, L, rfl, Z, m0m, ?_⟩
  walk_at "d"
  obtain ⟨l0, hl0⟩ : ∃ l0, lineAt ms m0 = l0 := ⟨_, rfl⟩
  rw [hl0] at eb ⊢
  walk_at "s"
  refine rowC m0m hl0.symm ?_
  walk_at "d"
  refine ⟨frs_flat _, ?_⟩
  refine meaC m0m hl0.symm ?_
  walk_at "d"
  walk_at "s"
  have ec : cutL (ms.map mk3) (some 1) none = A0.map mk3 := by
    have := cutL_lo (ms.map mk3) 1
    rw [show ((1 : Nat) : Int) = 1 from rfl] at this
    rw [this, e0]; rfl
  refine seq_mk (for_map mk3 A0 (fun Q h => by
      walk_at "d"
      rw [ec]; exact h)
    (fun i δ => ∃ (l : Ln) (t1 t2 t3 : Option Sl), δ = [some (.dat (.list (ms.map mk3))), some (.own [fr l.1, fr l.2]), some (.dat (fr (FS ms l))), t1, t2, t3] ∧ (∃ m ∈ ms, l = lineAt ms m) ∧ bestG ms l (A0.drop i) = bestL ms)
    ⟨l0, _, _, _, rfl, ⟨m0, m0m, hl0.symm⟩, eb.symm⟩ ?_ ?_)
  · rintro i m δ hi ⟨l, t1, t2, t3, rfl, ⟨m1, hm1, el⟩, hb⟩
    have hm := Am m (List.mem_of_getElem? hi)
    have hi2 := (List.getElem?_eq_some_iff.mp hi).1
    have ed : A0.drop i = m :: A0.drop (i + 1) := by
      rw [List.drop_eq_getElem_cons hi2]
      congr 1
      exact (List.getElem?_eq_some_iff.mp hi).2
    rw [ed, bestG] at hb
    walk_at "s"
    refine ⟨ms, m, L, rfl, Z, hm, ?_⟩
    walk_at "d"
    obtain ⟨l', hl'⟩ : ∃ l', lineAt ms m = l' := ⟨_, rfl⟩
    rw [hl'] at hb ⊢
    walk_at "s"
    refine rowC hm hl'.symm ?_
    walk_at "d"
    refine ⟨frs_flat _, ?_⟩
    refine meaC hm hl'.symm ?_
    walk_at "d"
    refine ⟨FS ms l', FS ms l, rfl, by rw [← hl']; exact fsOk hm, by rw [el]; exact fsOk hm1, ?_⟩
    walk_at "d"
    refine ite2 (fun c => ?_) (fun c => ?_)
    · rw [if_pos c] at hb
      walk_at "s"
      exact ⟨l', some _, none, some _, rfl, ⟨m, hm, hl'.symm⟩, hb⟩
    · rw [if_neg c] at hb
      exact ⟨l, some _, some _, some _, rfl, ⟨m1, hm1, el⟩, hb⟩
  · rintro δ ⟨l, t1, t2, t3, rfl, ⟨m1, hm1, el⟩, hb⟩
    rw [List.drop_length, bestG] at hb
    rw [hb]
    obtain ⟨fe, _, _, f1, f2⟩ := best_pulls Z
    walk_at "d"
    refine ⟨ms, bestL ms, L, rfl, Z, best_sz Z, fe, f1, f2, ?_⟩
    walk_at "d"
    exact ⟨frs_flat _, k⟩
end
noncomputable def lvl (ms : List Mk) : Rat := midF (ms.map fun m => (m.2.1, (m.2.2 : Rat)))
theorem lvl_pos {ms : List Mk} (hw : ∀ m ∈ ms, 1 ≤ m.2.2) : ∀ z ∈ ms.map fun m : Mk => (m.2.1, (m.2.2 : Rat)), 0 < z.2 := fun z hz => by
  obtain ⟨m, hm, rfl⟩ := List.mem_map.mp hz
  exact Rat.intCast_pos.mpr (by have := hw m hm; omega)
theorem lvl_mid {ms : List Mk} (hne : ms ≠ []) (hw : ∀ m ∈ ms, 1 ≤ m.2.2) : Mid (ms.map fun m => (m.2.1, (m.2.2 : Rat))) (lvl ms) := midF_mid (by simpa using hne) (lvl_pos hw)
theorem lvl_mem {ms : List Mk} (hne : ms ≠ []) (hw : ∀ m ∈ ms, 1 ≤ m.2.2) : ∃ m ∈ ms, m.2.1 = lvl ms := by
  obtain ⟨z, hz, e⟩ := (lvl_mid hne hw).mem
  obtain ⟨m, hm, rfl⟩ := List.mem_map.mp hz
  exact ⟨m, hm, e⟩
theorem lvl_cst (ms : List Mk) (t : Rat) : cst (ms.map fun m => (m.2.1, (m.2.2 : Rat))) t = FS ms (t, 0) := by
  unfold cst FS rr
  rw [List.map_map]
  congr 1
  refine List.map_congr_left fun m _ => ?_
  show (m.2.2 : Rat) * absR (m.2.1 - t) = _
  congr 2
  grind
theorem lvl_least {ms : List Mk} (hne : ms ≠ []) (hw : ∀ m ∈ ms, 1 ≤ m.2.2) (a : Rat) : FS ms (lvl ms, 0) ≤ FS ms (a, 0) := by
  rw [← lvl_cst, ← lvl_cst]
  exact mid_least (fun z hz => by have := lvl_pos hw z hz; grind) (lvl_mid hne hw) a
section
variable {P : Program} {w : World} {K : PySem.W.Frag} {mg : Str → Option Value} {base : Heap} {A : Adr}
noncomputable def wLevelS : DW := fun ds Q _ => ∃ (ms : List Mk) (L : Nat), ds = [.str "sum", .list (ms.map mk3)] ∧ LSz L ms ∧ Q (.dat (fr (lvl ms)))
theorem ok_least_level (T : Txt K mg A) : FnOk P w K mg base (CXE P w) 5 A.a_least_level A.d_least_level ["kind", "marks"] (spW K wLevelS) := by
  have G_middle_of := ok_middle_of (P := P) (w := w) (base := base) T
  have G_product := ok_product (P := P) (w := w) (base := base) T
  have G_plus := ok_plus (P := P) (w := w) (base := base) T
  have G_greatest_of := ok_greatest_of (P := P) (w := w) (base := base) T
  have G_least_of := ok_least_of (P := P) (w := w) (base := base) T
  have G_quotient := ok_quotient (P := P) (w := w) (base := base) T
  have G_total_of := ok_total_of (P := P) (w := w) (base := base) T
  refine okW T.F_least_level sc_least_level (fun ds Q E h => ?_) (fun cdv Ar outer s H E hr => ?_)
  · obtain ⟨_, _, rfl, _⟩ := h; rfl
  refine ⟨_, (pss_cons (ps_setLC (i := 2) (cap := [none]) (NC := ["mark"]) sc_least_level.nd rfl rfl rfl ⟨rfl, rfl, by decide +kernel, by decide +kernel, trivial, (fun _ h => nomatch h), rfl⟩ (pilK (K := K) rfl (pv 1)) (fun _ _ _ _ => (pg_name (i := 0) (show List.Nodup (["mark"] : List Str) by decide) rfl (Or.inl rfl))) (fun _ _ _ _ => pts_nil) (fun _ _ _ _ => (pe_ix (ixtK (K := K) rfl) (pv 0) pe_int (fun _ _ => rfl))))
      (pss_cons (ps_if (pt_cmpR op_eq (pv 0) pe_str (nomark _)) (pss_one ps_no) pss_nil)
      (pss_cons (ps_setLC (i := 3) (cap := [none]) (NC := ["mark"]) sc_least_level.nd rfl rfl rfl ⟨rfl, rfl, by decide +kernel, by decide +kernel, trivial, (fun _ h => nomatch h), rfl⟩ (pilK (K := K) rfl (pv 1)) (fun _ _ _ _ => (pg_name (i := 0) (show List.Nodup (["mark"] : List Str) by decide) rfl (Or.inl rfl))) (fun _ _ _ _ => pts_nil) (fun _ _ _ _ => (pe_tup (pa_cons (pe_ix (ixtK (K := K) rfl) (pv 0) pe_int (fun _ _ => rfl)) (pa_cons pe_int pa_nil)))))
      (pss_cons (ps_if (pt_cmpR op_eq (pv 0) pe_str (nomark _)) (pss_one (ps_ret (pe_call G_middle_of (hr.mono (by decide)) rfl T.m_middle_of T.F_middle_of.kp T.b_middle_of .nil passE0 (pa_cons (pv 2) (pa_cons (pv 3) pa_nil))))) pss_nil)
      (pss_cons ps_no
      (pss_one ps_no)))))), _, (sv_seq (sv_setO 2 (ov_lc (ie_list (lv_var 1)) (gv_name 0) tv_yes (ev_ixk 1 (ev_var 0)) (by decide) (by decide)))
      (sv_seq (sv_if (tv_test (bv_ev (ev_op ro_eq (bv_var 0) (bv_ev ev_str)))) sv_no sv_next)
      (sv_seq (sv_setO 3 (ov_lc (ie_list (lv_var 1)) (gv_name 0) tv_yes (ev_tup (ae_cons (ev_ixk 2 (ev_var 0)) (ae_cons ev_int ae_nil)) (by decide)) (by decide) (by decide)))
      (sv_seq (sv_if (tv_test (bv_ev (ev_op ro_eq (bv_var 0) (bv_ev ev_str)))) (sv_ret (bv_ev (ev_call0 (av_cons (bv_var 2) (av_cons (bv_var 3) av_nil))))) sv_next)
      (sv_seq sv_no
      sv_no))))), ?_⟩
  rintro ds Q X ⟨ms, L, rfl, Z, k⟩
  have n60 := Z.n60
  walk_at "s"
  refine lc_map mk3 fr (fun m : Mk => [m.2.1]) ms (by omega) (fun Q h => h) (fun m h N acc hN => ?_) ?_
  · walk_at "d"
    exact hN
  rw [flat_single]
  walk_at "s"
  rw [if_neg (by decide)]
  walk_at "s"
  refine lc_map mk3 fr (fun m : Mk => [(m.2.2 : Rat)]) ms (by omega) (fun Q h => h) (fun m h N acc hN => ?_) ?_
  · walk_at "d"
    exact hN
  rw [flat_single]
  walk_at "s"
  have ez : (ms.map fun m : Mk => m.2.1).zip (ms.map fun m : Mk => (m.2.2 : Rat)) = ms.map fun m => (m.2.1, (m.2.2 : Rat)) := by
    clear k Z n60
    induction ms with
    | nil => rfl
    | cons o os ih => rw [List.map_cons, List.map_cons, List.map_cons, List.zip_cons_cons, ih]
  refine ⟨ms.map fun m => m.2.1, ms.map fun m => (m.2.2 : Rat), 1, rfl, by decide, Nat.one_le_pow _ _ (by decide), by rw [List.length_map, List.length_map], by rw [List.length_map]; exact Z.n1, by rw [List.length_map]; exact n60, fun q hq => ?_, fun v hv => ?_, fun x hx => ?_⟩
  · obtain ⟨m, hm, rfl⟩ := List.mem_map.mp hq
    exact dgOk (Z.yd hm) (by decide)
  · obtain ⟨m, hm, rfl⟩ := List.mem_map.mp hv
    have hw := Z.w m hm
    exact ⟨Rat.intCast_pos.mpr (by omega), (Cm.int (i := m.2.2) (B := 10 ^ 100) (by omega)).mono (Nat.dvd_refl _) (ten_le (by decide))⟩
  rw [ez] at hx
  have ex : lvl ms = x := midF_eq (fun z hz => by have := lvl_pos Z.w1 z hz; grind) hx
  rw [ex] at k
  walk_at "d"
  exact k
noncomputable def wLevS : DW := fun ds Q _ => ∃ (ms : List Mk) (L : Nat), ds = [.list (ms.map mk3)] ∧ LSz L ms ∧ Q (.two [fr (lvl ms)] ((earL (lvl ms, 0) ms).map fr))
theorem ok_level_sum (T : Txt K mg A) : FnOk P w K mg base (CXE P w) 6 A.a_level_sum A.d_level_sum ["marks"] (spW K wLevS) := by
  have G_least_level := ok_least_level (P := P) (w := w) (base := base) T
  have G_row_of := ok_row_of (P := P) (w := w) (base := base) T
  have G_misses_of := ok_misses_of (P := P) (w := w) (base := base) T
  have G_early_pulls := ok_early_pulls (P := P) (w := w) (base := base) T
  refine okW T.F_level_sum sc_level_sum (fun ds Q E h => ?_) (fun cdv Ar outer s H E hr => ?_)
  · obtain ⟨_, _, rfl, _⟩ := h; rfl
  refine ⟨_, (pss_cons (ps_set (i := 1) sc_level_sum.nd rfl (Or.inl rfl) (pe_lst (pa_cons (pe_call G_least_level (hr.mono (by decide)) rfl T.m_least_level T.F_least_level.kp T.b_least_level .nil passE0 (pa_cons pe_str (pa_cons (pv 0) pa_nil))) pa_nil)))
      (pss_cons (ps_set (i := 2) sc_level_sum.nd rfl (Or.inl rfl) (pe_call G_misses_of (hr.mono (by decide)) rfl T.m_misses_of T.F_misses_of.kp T.b_misses_of .nil passE0 (pa_cons (pv 0) (pa_cons (pe_call G_row_of (hr.mono (by decide)) rfl T.m_row_of T.F_row_of.kp T.b_row_of .nil passE0 (pa_cons (pv 1) (pa_cons (pv 0) pa_nil))) pa_nil))))
      (pss_one (ps_ret (pe_tup (pa_cons (pv 1) (pa_cons (pe_call G_early_pulls (hr.mono (by decide)) rfl T.m_early_pulls T.F_early_pulls.kp T.b_early_pulls .nil passE0 (pa_cons (pv 0) (pa_cons (pv 2) pa_nil))) pa_nil))))))), _, (sv_seq (sv_setO 1 (ov_lst (ae_cons (ev_call0 (av_cons (bv_ev ev_str) (av_cons (bv_var 0) av_nil))) ae_nil) (by decide)))
      (sv_seq (sv_setO 2 (ov_call0 (av_cons (bv_var 0) (av_cons (bv_ev (ev_ov (ov_call0 (av_cons (bv_var 1) (av_cons (bv_var 0) av_nil))))) av_nil))))
      (sv_ret2 (o2_vn 1 (ov_call0 (av_cons (bv_var 0) (av_cons (bv_var 2) av_nil))))))), ?_⟩
  rintro ds Q X ⟨ms, L, rfl, Z, k⟩
  have n60 := Z.n60
  obtain ⟨x, hx⟩ : ∃ x, lvl ms = x := ⟨_, rfl⟩
  have dx : Dg 201 x := by
    obtain ⟨m, hm, e⟩ := lvl_mem Z.ne Z.w1
    rw [← hx, ← e]
    exact Z.yd hm
  walk_at "s"
  refine ⟨ms, L, rfl, Z, ?_⟩
  rw [hx] at k ⊢
  walk_at "d"
  walk_at "s"
  refine ⟨[x], ms, 201, 201, rfl, (show 1 ≤ 60 by decide), by omega, fun n hn => by rw [List.mem_singleton.mp hn]; exact dx, fun m h => Z.xd h, (show 1 * (201 + 201 + 2) ≤ 2300 by decide), ?_⟩
  walk_at "d"
  refine ⟨frs_flat _, ?_⟩
  have eh : ∀ m : Mk, hgt [x] m.1 = x := fun m => by rw [hgt_cons, hgt_nil]; grind
  refine ⟨ms, _, rfl, by omega, fun m h => dgOk (Z.yd h) (by decide), fun q hq => by
    obtain ⟨m, hm, rfl⟩ := List.mem_map.mp hq
    rw [eh]; exact dgOk dx (by decide), ?_⟩
  walk_at "d"
  refine ⟨frs_flat _, ?_⟩
  have em : (missR ms (ms.map fun m => hgt [x] m.1)).map fr = ms.map fun m => fr (rr (x, 0) m) := by
    rw [miss_map, List.map_map]
    exact List.map_congr_left fun m _ => by
      show fr (m.2.1 - hgt [x] m.1) = fr (rr (x, 0) m)
      rw [eh]; unfold rr; congr 1; grind
  rw [em]
  walk_at "d"
  refine ⟨ms, rr (x, 0), rfl, n60, Z.w, ?_⟩
  walk_at "d"
  exact ⟨frs_flat _, k⟩
end
noncomputable def cellF (ns : List Int) (k : Int) : Int := if k < (ns.length : Int) then ns.getD k.toNat default else 11 * k * k + 5 * k + 2
theorem cellF_bg {ns : List Int} (h : ∀ v ∈ ns, Builtin.Int.intBits v ≤ 1048576) {k : Int} (h0 : 0 ≤ k) (h1 : k ≤ 1000) : Bg 1048577 (cellF ns k) := by
  unfold cellF
  split
  · exact Bg.of (getD_all (p := fun v => Builtin.Int.intBits v ≤ 1048576) h (by decide))
  · refine Bg.small ?_ (by decide)
    have h2 : 11 * k * k ≤ 11000 * 1000 := Int.mul_le_mul (by omega) h1 h0 (by omega)
    have h3 : 0 ≤ 11 * k * k := Int.mul_nonneg (by omega) h0
    omega
theorem atI_some {α : Type} {xs : List α} {i : Int} (h0 : 0 ≤ i) (h1 : i < (xs.length : Int)) : ∃ x, x ∈ xs ∧ atI xs i = some x := by
  obtain ⟨n, rfl⟩ : ∃ n : Nat, i = (n : Int) := ⟨i.toNat, by omega⟩
  have hn : n < xs.length := by omega
  exact ⟨xs[n], List.getElem_mem hn, atI_nat (List.getElem?_eq_getElem hn)⟩
section
variable {P : Program} {w : World} {K : PySem.W.Frag} {mg : Str → Option Value} {base : Heap} {A : Adr}
noncomputable def wCell : DW := fun ds Q _ => ∃ (ns : List Int) (k : Int), ds = [.list (ns.map .int), .int k] ∧ 0 ≤ k ∧ k ≤ 1000 ∧ Q (.dat (.int (cellF ns k)))
theorem ok_law_cell (T : Txt K mg A) : FnOk P w K mg base (CXE P w) 1 A.a_law_cell A.d_law_cell ["script", "k"] (spW K wCell) := by
  refine okW T.F_law_cell sc_law_cell (fun ds Q E h => ?_) (fun cdv Ar outer s H E hr => ?_)
  · obtain ⟨_, _, rfl, _⟩ := h; rfl
  refine ⟨_, (pss_cons (ps_if (pt_cmpR op_lt (pv 1) (pe_callB (lenK (K := K) rfl) rfl T.n_len PySem.boot_len (pa_cons (pv 0) pa_nil)) (nomark _)) (pss_one (ps_ret (pe_ix (ixlK (K := K) rfl) (pv 0) (pv 1) (fun _ _ => rfl)))) pss_nil)
      (pss_one (ps_ret (pe_op op_add (pe_op op_add (pe_op op_mulB (pe_op op_mulB pe_int (pv 1)) (pv 1)) (pe_op op_mulB pe_int (pv 1))) pe_int)))), _, (sv_seq (sv_if (tv_test (bv_ev (ev_op ro_b0 (bv_var 1) (bv_ev (ev_cb rb_len (av_cons (bv_var 0) av_nil)))))) (sv_ret (bv_ev (ev_ixl (lv_var 0) (bv_var 1)))) sv_next)
      (sv_ret (bv_ev (ev_op ro_i0 (bv_ev (ev_op ro_i0 (bv_ev (ev_op ro_i (bv_ev (ev_op ro_i (bv_ev ev_int) (bv_var 1))) (bv_var 1))) (bv_ev (ev_op ro_i (bv_ev ev_int) (bv_var 1))))) (bv_ev ev_int))))), ?_⟩
  rintro ds Q X ⟨ns, k, rfl, h0, h1, kq⟩
  unfold cellF at kq
  walk_at "s"
  refine ite2 (fun c => ?_) (fun c => ?_)
  · rw [if_pos c] at kq
    exact ⟨_, atI_mk PyData.int h0 c, kq⟩
  · rw [if_neg c] at kq
    walk_at "d"
    exact ⟨mulOk (wee (by decide +kernel)) (weeLe (n := 1000) (by omega) (by decide +kernel)), mulOk (weeLe (n := 11000) (by omega) (by decide +kernel)) (weeLe (n := 1000) (by omega) (by decide +kernel)), mulOk (wee (by decide +kernel)) (weeLe (n := 1000) (by omega) (by decide +kernel)), kq⟩
noncomputable def wDiv : DW := fun ds Q _ => ∃ a b : Int, ds = [.int a, .int b] ∧ 0 ≤ b ∧ Q (.dat (.int ((Int.gcd a b : Nat) : Int)))
theorem ok_law_divisor (T : Txt K mg A) : FnOk P w K mg base (CXE P w) 1 A.a_law_divisor A.d_law_divisor ["one", "other"] (spW K wDiv) := by
  refine okW T.F_law_divisor sc_law_divisor (fun ds Q E h => ?_) (fun cdv Ar outer s H E hr => ?_)
  · obtain ⟨a, b, rfl, _⟩ := h; rfl
  refine ⟨_, (pss_cons (ps_while PassesOwn.leaving (pt_cmpR op_ne (pv 1) pe_int (nomark _)) (pss_one (ps_par (i := 0) (j := 1) rfl sc_law_divisor.nd rfl rfl (by decide) rfl rfl (pa_cons (pv 1) (pa_cons (pe_op op_mod (pv 0) (pv 1)) pa_nil)) rfl)))
      (pss_one (ps_ret (pe_callB call_abs rfl T.n_abs bt_abs (pa_cons (pv 0) pa_nil))))), _, (sv_seq (sv_while (tv_test (bv_ev (ev_op ro_ne (bv_var 1) (bv_ev ev_int)))) (sv_par 0 1 (ae_cons (ev_var 1) (ae_cons (ev_op ro_i (bv_var 0) (bv_var 1)) ae_nil))))
      (sv_ret (bv_ev (ev_cb rb_abs (av_cons (bv_var 0) av_nil))))), ?_⟩
  rintro ds Q X ⟨a, b, rfl, hb, k⟩
  refine seq_mk ?_
  refine ⟨fun m δ => ∃ x y : Int, δ = [some (.dat (.int x)), some (.dat (.int y))] ∧ m = y.toNat ∧ 0 ≤ y ∧ Int.gcd x y = Int.gcd a b, ⟨_, a, b, rfl, rfl, hb, rfl⟩, ?_⟩
  rintro m δ ⟨x, y, rfl, rfl, hy, hg⟩
  walk_at "d"
  refine ite2 (fun c => ?_) (fun c => ?_)
  · have hy0 : y ≠ 0 := c
    have hp : 0 < y := by omega
    refine ⟨hp, _, ?_, y, x % y, rfl, rfl, Int.emod_nonneg _ hy0, ?_⟩
    · have := Int.emod_lt_of_pos x hp
      have := Int.emod_nonneg x hy0
      omega
    · rw [Fm.gcd_step x y hp, hg]
  · have hy0 : y = 0 := Decidable.not_not.mp c
    subst hy0
    have e : (if x < 0 then -x else x) = ((Int.gcd a b : Nat) : Int) := by
      rw [← hg, Int.gcd_zero_right]
      split <;> omega
    walk_at "d"
    rw [e]
    exact k
noncomputable def wLow : DW := fun ds Q _ => ∃ t b : Int, ds = [.int t, .int b] ∧ 1 ≤ b ∧ Wee b ∧ Q (.dat (fr (Rat.divInt t b)))
theorem ok_law_low (T : Txt K mg A) : FnOk P w K mg base (CXE P w) 2 A.a_law_low A.d_law_low ["top", "bottom"] (spW K wLow) := by
  have G_law_divisor := ok_law_divisor (P := P) (w := w) (base := base) T
  refine okW T.F_law_low sc_law_low (fun ds Q E h => ?_) (fun cdv Ar outer s H E hr => ?_)
  · obtain ⟨_, _, rfl, _⟩ := h; rfl
  refine ⟨_, (pss_cons (ps_set (i := 2) sc_law_low.nd rfl (Or.inl rfl) (pe_call G_law_divisor (hr.mono (by decide)) rfl T.m_law_divisor T.F_law_divisor.kp T.b_law_divisor .nil passE0 (pa_cons (pv 0) (pa_cons (pv 1) pa_nil))))
      (pss_cons (ps_if (pt_cmpR op_lt (pv 1) pe_int (nomark _)) (pss_one (ps_set (i := 2) sc_law_low.nd rfl (Or.inl rfl) (pe_un un_neg (pv 2)))) pss_nil)
      (pss_one (ps_ret (pe_tup (pa_cons (pe_op op_fdivB (pv 0) (pv 2)) (pa_cons (pe_op op_fdivB (pv 1) (pv 2)) pa_nil))))))), _, (sv_seq (sv_asg (ev_call0 (av_cons (bv_var 0) (av_cons (bv_var 1) av_nil))) (gv_name 2))
      (sv_seq (sv_if (tv_test (bv_ev (ev_op ro_b0 (bv_var 1) (bv_ev ev_int)))) (sv_asg (ev_neg (bv_var 2)) (gv_name 2)) sv_next)
      (sv_ret (bv_ev (ev_tup (ae_cons (ev_op ro_i (bv_var 0) (bv_var 2)) (ae_cons (ev_op ro_i (bv_var 1) (bv_var 2)) ae_nil)) (by decide)))))), ?_⟩
  rintro ds Q X ⟨t, b, rfl, hb, hw, k⟩
  walk_at "s"
  refine ⟨t, b, rfl, by omega, ?_⟩
  have g0 : (0 : Int) < ((Int.gcd t b : Nat) : Int) := by have := Fm.gcd_pos_right (a := t) (b := b) (by omega); omega
  have gw : Wee ((Int.gcd t b : Nat) : Int) := wee_nat (Fm.gcd_le_right (a := t) (b := b) (by omega)) hw
  obtain ⟨e1, e2⟩ := Fm.fr_pos (t := t) (b := b) (by omega)
  walk_at "s"
  refine ite2 (fun c => absurd c (by omega)) (fun c => ?_)
  walk_at "d"
  refine ⟨⟨g0, gw⟩, ⟨g0, gw⟩, ?_⟩
  rw [e1, e2]
  exact k
end
noncomputable abbrev pr (p : Int × Int) : PyData := .tuple [.int p.1, .int p.2]
section
variable {P : Program} {w : World} {K : PySem.W.Frag} {mg : Str → Option Value} {base : Heap} {A : Adr}
noncomputable def wSumP : DW := fun ds Q _ => ∃ (t b u c : Int) (n m : Nat), ds = [pr (t, b), pr (u, c)] ∧ 0 < b ∧ 0 < c ∧ t.natAbs ≤ 10 ^ n ∧ b.natAbs ≤ 10 ^ n ∧ u.natAbs ≤ 10 ^ m ∧ c.natAbs ≤ 10 ^ m ∧ n + m ≤ 2400 ∧ Q (.dat (fr (Rat.divInt t b + Rat.divInt u c)))
theorem sum_fr {a b : Rat} {n m : Nat} {Q : Sl → Prop} {X : DX} (ha : Dg n a) (hb : Dg m b) (l : n + m ≤ 2400) (k : Q (.dat (fr (a + b)))) : wSumP [fr a, fr b] Q X := by
  have h1 := Fm.den_pos a
  have h2 := Fm.den_pos b
  refine ⟨a.num, a.den, b.num, b.den, n, m, rfl, by omega, by omega, ha.n, by have := ha.d; omega, hb.n, by have := hb.d; omega, l, ?_⟩
  rw [Rat.num_divInt_den, Rat.num_divInt_den]
  exact k
theorem sum_fp {a : Rat} {u c : Int} {n m : Nat} {Q : Sl → Prop} {X : DX} (ha : Dg n a) (hc : 0 < c) (hu : u.natAbs ≤ 10 ^ m) (hc2 : c.natAbs ≤ 10 ^ m) (l : n + m ≤ 2400) (k : Q (.dat (fr (a + Rat.divInt u c)))) : wSumP [fr a, pr (u, c)] Q X := by
  have h1 := Fm.den_pos a
  refine ⟨a.num, a.den, u, c, n, m, rfl, by omega, hc, ha.n, by have := ha.d; omega, hu, hc2, l, ?_⟩
  rw [Rat.num_divInt_den]
  exact k
theorem add_div2 {t b u c : Int} (hb : 0 < b) (hc : 0 < c) : Rat.divInt (t * c + u * b) (b * c) = Rat.divInt t b + Rat.divInt u c := by
  have hb0 : (b : Rat) ≠ 0 := fun z => by have := Rat.intCast_eq_zero_iff.mp z; omega
  have hc0 : (c : Rat) ≠ 0 := fun z => by have := Rat.intCast_eq_zero_iff.mp z; omega
  refine (Fm.eq_divInt (Int.mul_ne_zero (by omega) (by omega)) ?_).symm
  rw [Fm.mk_div t b (by omega), Fm.mk_div u c (by omega), Rat.intCast_add, Rat.intCast_mul, Rat.intCast_mul, Rat.intCast_mul]
  have e1 : (t : Rat) / b * b = t := Rat.div_mul_cancel hb0
  have e2 : (u : Rat) / c * c = u := Rat.div_mul_cancel hc0
  generalize (t : Rat) / b = x at e1 ⊢
  generalize (u : Rat) / c = y at e2 ⊢
  rw [← e1, ← e2]
  grind
theorem ok_law_plus (T : Txt K mg A) : FnOk P w K mg base (CXE P w) 3 A.a_law_plus A.d_law_plus ["one", "other"] (spW K wSumP) := by
  have G_law_low := ok_law_low (P := P) (w := w) (base := base) T
  refine okW T.F_law_plus sc_law_plus (fun ds Q E h => ?_) (fun cdv Ar outer s H E hr => ?_)
  · obtain ⟨_, _, _, _, _, _, rfl, _⟩ := h; rfl
  refine ⟨_, (pss_one (ps_ret (pe_call G_law_low (hr.mono (by decide)) rfl T.m_law_low T.F_law_low.kp T.b_law_low .nil passE0 (pa_cons (pe_op op_add (pe_op op_mulB (pe_ix (ixtK (K := K) rfl) (pv 0) pe_int (fun _ _ => rfl)) (pe_ix (ixtK (K := K) rfl) (pv 1) pe_int (fun _ _ => rfl))) (pe_op op_mulB (pe_ix (ixtK (K := K) rfl) (pv 1) pe_int (fun _ _ => rfl)) (pe_ix (ixtK (K := K) rfl) (pv 0) pe_int (fun _ _ => rfl)))) (pa_cons (pe_op op_mulB (pe_ix (ixtK (K := K) rfl) (pv 0) pe_int (fun _ _ => rfl)) (pe_ix (ixtK (K := K) rfl) (pv 1) pe_int (fun _ _ => rfl))) pa_nil))))), _, (sv_ret (bv_ev (ev_call0 (av_cons (bv_ev (ev_op ro_i0 (bv_ev (ev_op ro_i (bv_ev (ev_ixk 0 (ev_var 0))) (bv_ev (ev_ixk 1 (ev_var 1))))) (bv_ev (ev_op ro_i (bv_ev (ev_ixk 0 (ev_var 1))) (bv_ev (ev_ixk 1 (ev_var 0))))))) (av_cons (bv_ev (ev_op ro_i (bv_ev (ev_ixk 1 (ev_var 0))) (bv_ev (ev_ixk 1 (ev_var 1))))) av_nil))))), ?_⟩
  rintro ds Q X ⟨t, b, u, c, n, m, rfl, hb, hc, b1, b2, b3, b4, l, k⟩
  have w1 := tenWee b1 (by omega)
  have w2 := tenWee b2 (by omega)
  have w3 := tenWee b3 (by omega)
  have w4 := tenWee b4 (by omega)
  walk_at "d"
  have hp := Int.mul_pos hb hc
  refine ⟨mulOk w1 w4, mulOk w3 w2, mulOk w2 w4, _, _, rfl, by omega, tenWee (n := n + m) (by rw [Int.natAbs_mul, Nat.pow_add]; exact Nat.mul_le_mul b2 b4) l, ?_⟩
  rw [add_div2 hb hc]
  walk_at "d"
  exact k
end
theorem dv1 (n : Int) : Rat.divInt n 1 = (n : Rat) := by
  rw [Fm.mk_div n 1 (by decide)]
  have h : (n : Rat) / ((1 : Int) : Rat) * ((1 : Int) : Rat) = n := Rat.div_mul_cancel (by decide)
  have e : ((1 : Int) : Rat) = 1 := rfl
  rw [e, Rat.mul_one] at h
  exact h
theorem mul_div2 {t b u c : Int} (hb : 0 < b) (hc : 0 < c) : Rat.divInt (t * u) (b * c) = Rat.divInt t b * Rat.divInt u c := by
  have hb0 : (b : Rat) ≠ 0 := fun z => by have := Rat.intCast_eq_zero_iff.mp z; omega
  have hc0 : (c : Rat) ≠ 0 := fun z => by have := Rat.intCast_eq_zero_iff.mp z; omega
  refine (Fm.eq_divInt (Int.mul_ne_zero (by omega) (by omega)) ?_).symm
  rw [Fm.mk_div t b (by omega), Fm.mk_div u c (by omega), Rat.intCast_mul, Rat.intCast_mul]
  have e1 : (t : Rat) / b * b = t := Rat.div_mul_cancel hb0
  have e2 : (u : Rat) / c * c = u := Rat.div_mul_cancel hc0
  generalize (t : Rat) / b = x at e1 ⊢
  generalize (u : Rat) / c = y at e2 ⊢
  rw [← e1, ← e2]
  grind
section
variable {P : Program} {w : World} {K : PySem.W.Frag} {mg : Str → Option Value} {base : Heap} {A : Adr}
noncomputable def wTimesP : DW := fun ds Q _ => ∃ (t b u c : Int) (n m : Nat), ds = [pr (t, b), pr (u, c)] ∧ 0 < b ∧ 0 < c ∧ t.natAbs ≤ 10 ^ n ∧ b.natAbs ≤ 10 ^ n ∧ u.natAbs ≤ 10 ^ m ∧ c.natAbs ≤ 10 ^ m ∧ n + m ≤ 2400 ∧ Q (.dat (fr (Rat.divInt t b * Rat.divInt u c)))
theorem ok_law_times (T : Txt K mg A) : FnOk P w K mg base (CXE P w) 3 A.a_law_times A.d_law_times ["one", "other"] (spW K wTimesP) := by
  have G_law_low := ok_law_low (P := P) (w := w) (base := base) T
  refine okW T.F_law_times sc_law_times (fun ds Q E h => ?_) (fun cdv Ar outer s H E hr => ?_)
  · obtain ⟨_, _, _, _, _, _, rfl, _⟩ := h; rfl
  refine ⟨_, (pss_one (ps_ret (pe_call G_law_low (hr.mono (by decide)) rfl T.m_law_low T.F_law_low.kp T.b_law_low .nil passE0 (pa_cons (pe_op op_mulB (pe_ix (ixtK (K := K) rfl) (pv 0) pe_int (fun _ _ => rfl)) (pe_ix (ixtK (K := K) rfl) (pv 1) pe_int (fun _ _ => rfl))) (pa_cons (pe_op op_mulB (pe_ix (ixtK (K := K) rfl) (pv 0) pe_int (fun _ _ => rfl)) (pe_ix (ixtK (K := K) rfl) (pv 1) pe_int (fun _ _ => rfl))) pa_nil))))), _, (sv_ret (bv_ev (ev_call0 (av_cons (bv_ev (ev_op ro_i (bv_ev (ev_ixk 0 (ev_var 0))) (bv_ev (ev_ixk 0 (ev_var 1))))) (av_cons (bv_ev (ev_op ro_i (bv_ev (ev_ixk 1 (ev_var 0))) (bv_ev (ev_ixk 1 (ev_var 1))))) av_nil))))), ?_⟩
  rintro ds Q X ⟨t, b, u, c, n, m, rfl, hb, hc, b1, b2, b3, b4, l, k⟩
  have w1 := tenWee b1 (by omega)
  have w2 := tenWee b2 (by omega)
  have w3 := tenWee b3 (by omega)
  have w4 := tenWee b4 (by omega)
  walk_at "d"
  have hp := Int.mul_pos hb hc
  refine ⟨mulOk w1 w3, mulOk w2 w4, _, _, rfl, by omega, tenWee (n := n + m) (by rw [Int.natAbs_mul, Nat.pow_add]; exact Nat.mul_le_mul b2 b4) l, ?_⟩
  rw [mul_div2 hb hc]
  walk_at "d"
  exact k
noncomputable def wHeightL : DW := fun ds Q _ => ∃ (c sh : Int) (p : Rat) (l0 l1 : Int) (B : Nat), ds = [.int c, .int sh, fr p, .list [.int l0, .int l1]] ∧ 0 ≤ sh ∧ sh ≤ 3 ∧ Bg 1048577 c ∧ 0 < B ∧ B ≤ 10 ^ 6 ∧ Cm B (10 ^ 9) p ∧ l0.natAbs ≤ 6 ∧ l1.natAbs ≤ 6 ∧ ∀ q, Cm (5040 * B) (10 ^ 20) q → Q (.dat (fr q))
theorem ok_law_height (T : Txt K mg A) : FnOk P w K mg base (CXE P w) 4 A.a_law_height A.d_law_height ["cell", "shape", "place", "lean"] (spW K wHeightL) := by
  have G_law_low := ok_law_low (P := P) (w := w) (base := base) T
  have G_law_plus := ok_law_plus (P := P) (w := w) (base := base) T
  have G_law_times := ok_law_times (P := P) (w := w) (base := base) T
  refine okW T.F_law_height sc_law_height (fun ds Q E h => ?_) (fun cdv Ar outer s H E hr => ?_)
  · obtain ⟨_, _, _, _, _, _, rfl, _⟩ := h; rfl
  refine ⟨_, (pss_cons (ps_if (pt_cmpR op_eq (pv 1) pe_int (nomark _)) (pss_one (ps_ret (pe_tup (pa_cons (pe_op op_mod (pv 0) pe_int) (pa_cons pe_int pa_nil))))) pss_nil)
      (pss_cons (ps_if (pt_cmpR op_eq (pv 1) pe_int (nomark _)) (pss_one (ps_ret (pe_call G_law_low (hr.mono (by decide)) rfl T.m_law_low T.F_law_low.kp T.b_law_low .nil passE0 (pa_cons (pe_op op_sub (pe_op op_mod (pe_op op_mulB (pv 0) pe_int) (pe_op op_add (pe_op op_mulB pe_int (pe_op op_pow pe_int pe_int)) pe_int)) (pe_op op_pow pe_int pe_int)) (pa_cons (pe_op op_add pe_int (pe_op op_mod (pv 0) pe_int)) pa_nil))))) pss_nil)
      (pss_cons (ps_set (i := 4) sc_law_height.nd rfl (Or.inl rfl) (pe_call G_law_plus (hr.mono (by decide)) rfl T.m_law_plus T.F_law_plus.kp T.b_law_plus .nil passE0 (pa_cons (pe_tup (pa_cons (pe_ix (ixlK (K := K) rfl) (pv 3) pe_int (fun _ _ => rfl)) (pa_cons pe_int pa_nil))) (pa_cons (pe_call G_law_times (hr.mono (by decide)) rfl T.m_law_times T.F_law_times.kp T.b_law_times .nil passE0 (pa_cons (pe_tup (pa_cons (pe_ix (ixlK (K := K) rfl) (pv 3) pe_int (fun _ _ => rfl)) (pa_cons (pe_op op_add pe_int (pv 1)) pa_nil))) (pa_cons (pv 2) pa_nil))) pa_nil))))
      (pss_cons (ps_if (pt_cmpR op_eq (pe_op op_mod (pv 0) pe_int) pe_int (nomark _)) (pss_one (ps_set (i := 4) sc_law_height.nd rfl (Or.inl rfl) (pe_call G_law_plus (hr.mono (by decide)) rfl T.m_law_plus T.F_law_plus.kp T.b_law_plus .nil passE0 (pa_cons (pv 4) (pa_cons (pe_tup (pa_cons (pe_op op_sub (pe_op op_mod (pe_op op_fdivB (pv 0) pe_int) pe_int) pe_int) (pa_cons pe_int pa_nil))) pa_nil))))) pss_nil)
      (pss_one (ps_ret (pv 4))))))), _, (sv_seq (sv_if (tv_test (bv_ev (ev_op ro_eq (bv_var 1) (bv_ev ev_int)))) (sv_ret (bv_ev (ev_tup (ae_cons (ev_mdk (k := 4) (by decide) (bv_var 0) ev_int) (ae_cons ev_int ae_nil)) (by decide)))) sv_next)
      (sv_seq (sv_if (tv_test (bv_ev (ev_op ro_eq (bv_var 1) (bv_ev ev_int)))) (sv_ret (bv_ev (ev_call0 (av_cons (bv_ev (ev_op ro_i0 (bv_ev (ev_mdk (k := 2000000000001) (by decide) (bv_ev (ev_op ro_i (bv_var 0) (bv_ev ev_int))) (ev_k (v := 2000000000001) (ev_op ro_i0 (bv_ev (ev_op ro_i (bv_ev ev_int) (bv_ev (ev_op ro_i (bv_ev ev_int) (bv_ev ev_int))))) (bv_ev ev_int)) (fun ex δ Q h => ⟨cpow (by decide +kernel), mulOk (wee (by decide +kernel)) (wee (by decide +kernel)), Eq.mpr (congrArg (fun z => Q (.int z)) (by decide +kernel : (((2 * (10 ^ Int.toNat 12)) + 1) : Int) = 2000000000001)) h⟩)))) (bv_ev (ev_k (v := 1000000000000) (ev_op ro_i (bv_ev ev_int) (bv_ev ev_int)) (fun ex δ Q h => ⟨cpow (by decide +kernel), Eq.mpr (congrArg (fun z => Q (.int z)) (by decide +kernel : ((10 ^ Int.toNat 12) : Int) = 1000000000000)) h⟩))))) (av_cons (bv_ev (ev_op ro_i0 (bv_ev ev_int) (bv_ev (ev_mdk (k := 7) (by decide) (bv_var 0) ev_int)))) av_nil))))) sv_next)
      (sv_seq (sv_asg (ev_call0 (av_cons (bv_ev (ev_tup (ae_cons (ev_ixl (lv_var 3) (bv_ev ev_int)) (ae_cons ev_int ae_nil)) (by decide))) (av_cons (bv_ev (ev_call0 (av_cons (bv_ev (ev_tup (ae_cons (ev_ixl (lv_var 3) (bv_ev ev_int)) (ae_cons (ev_op ro_i0 (bv_ev ev_int) (bv_var 1)) ae_nil)) (by decide))) (av_cons (bv_var 2) av_nil)))) av_nil))) (gv_name 4))
      (sv_cut (sv_if (tv_test (bv_ev (ev_op ro_eq (bv_ev (ev_mdk (k := 3) (by decide) (bv_var 0) ev_int)) (bv_ev ev_int)))) (sv_asg (ev_call0 (av_cons (bv_var 4) (av_cons (bv_ev (ev_tup (ae_cons (ev_op ro_i0 (bv_ev (ev_mdk (k := 21) (by decide) (bv_ev (ev_dvk (k := 3) (cdiv (by decide +kernel)) (bv_var 0) ev_int)) ev_int)) (bv_ev ev_int)) (ae_cons ev_int ae_nil)) (by decide))) av_nil))) (gv_name 4)) sv_next)
      (sv_retV 4))))), ?_⟩
  rintro ds Q X ⟨c, sh, p, l0, l1, B, rfl, s0, s3, bg, B0, B1, hp, b0, b1, k⟩
  have dvB : ∀ n : Nat, n ∣ 5040 → n ∣ 5040 * B := fun n h => Nat.dvd_trans h (Nat.dvd_mul_right _ _)
  walk_at "s"
  refine ite2 (fun z => ?_) (fun z => ?_)
  · have h := Cm.int (i := c % 4) (B := 10 ^ 20) (by omega)
    exact k _ (h.mono (Nat.one_dvd _) (Nat.le_refl _))
  walk_at "s"
  refine ite2 (fun z1 => ?_) (fun z1 => ?_)
  · refine ⟨mulOkBig (Nat.le_trans bg.bits (by decide)) (wee (by decide +kernel)), _, _, rfl, by omega, weeLe (n := 7) (by omega) (by decide +kernel), ?_⟩
    walk_at "d"
    generalize c * 27644437 = z
    obtain ⟨b, hb, b0, b7⟩ : ∃ b : Nat, 1 + c % 7 = (b : Int) ∧ 0 < b ∧ b ≤ 7 := ⟨(1 + c % 7).toNat, by omega, by omega, by omega⟩
    rw [hb]
    have bd : b ∣ 5040 := by
      have : b = 1 ∨ b = 2 ∨ b = 3 ∨ b = 4 ∨ b = 5 ∨ b = 6 ∨ b = 7 := by omega
      rcases this with rfl | rfl | rfl | rfl | rfl | rfl | rfl <;> decide
    refine k _ (Cm.div b0 (dvB b bd) ?_)
    have : (z % 2000000000001 - 1000000000000).natAbs ≤ 10 ^ 20 := by omega
    exact Nat.le_trans this (Nat.le_mul_of_pos_right _ b0)
  have L0 : 0 < 5040 * B := by omega
  have L1 : 5040 * B ≤ 10 ^ 10 := by omega
  have dpp := Fm.den_pos p
  have gp : Dg 16 p := hp.dg B0 (l := 6) B1 (b := 9) (Nat.le_refl _)
  obtain ⟨sn, hsn, sn0, sn4⟩ : ∃ sn : Nat, 1 + sh = (sn : Int) ∧ 0 < sn ∧ sn ≤ 4 := ⟨(1 + sh).toNat, by omega, by omega, by omega⟩
  have sd : sn ∣ 5040 := by
    have : sn = 1 ∨ sn = 2 ∨ sn = 3 ∨ sn = 4 := by omega
    rcases this with rfl | rfl | rfl | rfl <;> decide
  have cq : Cm (5040 * B) (6 * 10 ^ 9) (Rat.divInt l1 (sn : Int) * p) := ((Cm.div (t := l1) (B := 6) sn0 (Nat.dvd_refl _) (Nat.le_trans b1 (Nat.le_mul_of_pos_right _ sn0))).mul hp).mono (Nat.mul_dvd_mul_right sd B) (Nat.le_refl _)
  walk_at "s"
  rw [hsn]
  refine ⟨_, rfl, _, rfl, l1, sn, p.num, (p.den : Int), 2, 16, rfl, by omega, by omega, by omega, by omega, gp.n, by have := gp.d; omega, by decide, ?_⟩
  rw [Rat.num_divInt_den]
  obtain ⟨q, hq⟩ : ∃ q, Rat.divInt l1 (sn : Int) * p = q := ⟨_, rfl⟩
  rw [hq] at cq ⊢
  have gq : Dg 21 q := (cq.mono (Nat.dvd_refl _) (show 6 * 10 ^ 9 ≤ 10 ^ 10 by decide)).dg L0 L1 (b := 10) (Nat.le_refl _)
  have dq := Fm.den_pos q
  walk_at "d"
  refine ⟨l0, 1, q.num, (q.den : Int), 2, 21, rfl, by decide, by omega, by omega, by decide, gq.n, by have := gq.d; omega, by decide, ?_⟩
  rw [Rat.num_divInt_den, dv1]
  have c1 : Cm (5040 * B) (6 + 6 * 10 ^ 9) ((l0 : Rat) + q) := ((Cm.int b0).mono (Nat.one_dvd _) (Nat.le_refl _)).add cq
  obtain ⟨r, hr⟩ : ∃ r, (l0 : Rat) + q = r := ⟨_, rfl⟩
  rw [hr] at c1 ⊢
  have c2 : Cm (5040 * B) (10 ^ 10) r := c1.mono (Nat.dvd_refl _) (by decide)
  have gr : Dg 21 r := c2.dg L0 L1 (b := 10) (Nat.le_refl _)
  walk_at "d"
  refine cut_mk (fun δ => ∃ q : Rat, δ = [some (.dat (.int c)), some (.dat (.int sh)), some (.dat (fr p)), some (.dat (.list [.int l0, .int l1])), some (.dat (fr q))] ∧ Cm (5040 * B) (10 ^ 20) q) ?_ ?_
  · walk_at "d"
    refine ite2 (fun z2 => ?_) (fun z2 => ⟨r, rfl, c2.mono (Nat.dvd_refl _) (by decide)⟩)
    refine sum_fp (m := 2) gr (by decide) (by omega) (by decide) (by decide) ?_
    rw [dv1]
    walk_at "d"
    exact ⟨_, rfl, (c2.add ((Cm.int (i := c / 3 % 21 - 10) (B := 10) (by omega)).mono (Nat.one_dvd _) (Nat.le_refl _))).mono (Nat.dvd_refl _) (by decide)⟩
  rintro δ ⟨q, rfl, hc⟩
  walk_at "d"
  exact k q hc
end
theorem div_lt_iff {t b u c : Int} (hb : 0 < b) (hc : 0 < c) : t * c < u * b ↔ Rat.divInt t b < Rat.divInt u c := by
  have hb0 : (b : Rat) ≠ 0 := fun z => by have := Rat.intCast_eq_zero_iff.mp z; omega
  have hc0 : (c : Rat) ≠ 0 := fun z => by have := Rat.intCast_eq_zero_iff.mp z; omega
  rw [Fm.mk_div t b (by omega), Fm.mk_div u c (by omega), ← Rat.intCast_lt_intCast, Rat.intCast_mul, Rat.intCast_mul]
  have e1 : (t : Rat) / b * b = t := Rat.div_mul_cancel hb0
  have e2 : (u : Rat) / c * c = u := Rat.div_mul_cancel hc0
  have hp : (0 : Rat) < (b : Rat) * c := Rat.mul_pos (Rat.intCast_pos.mpr hb) (Rat.intCast_pos.mpr hc)
  generalize (t : Rat) / b = x at e1 ⊢
  generalize (u : Rat) / c = y at e2 ⊢
  rw [← e1, ← e2]
  constructor
  · intro h
    refine Rat.not_le.mp fun z => ?_
    have := Rat.mul_nonneg (show 0 ≤ x - y by grind) (Rat.le_of_lt hp)
    grind
  · intro h
    have := Rat.mul_pos (show 0 < y - x by grind) hp
    grind
theorem absR_divInt {m l : Int} (hl : 0 < l) : absR (Rat.divInt m l) = Rat.divInt ((m.natAbs : Nat) : Int) l := by
  have h0 : (0 : Rat) < (l : Rat) := Rat.intCast_pos.mpr hl
  have hi := Rat.inv_pos.mpr h0
  rcases Int.le_total 0 m with h | h
  · have e : ((m.natAbs : Nat) : Int) = m := by omega
    rw [e]
    refine absR_pos ?_
    rw [Fm.mk_div m l (by omega), Rat.div_def]
    exact Rat.mul_nonneg (Rat.intCast_nonneg.mpr h) (Rat.le_of_lt hi)
  · have e : ((m.natAbs : Nat) : Int) = -m := by omega
    rw [e]
    have e2 : Rat.divInt (-m) l = -Rat.divInt m l := by
      rw [Fm.mk_div _ l (by omega), Fm.mk_div m l (by omega), Rat.div_def, Rat.div_def, Rat.intCast_neg, Rat.neg_mul]
    rw [e2]
    have h3 : Rat.divInt m l ≤ 0 := by
      rw [Fm.mk_div m l (by omega), Rat.div_def]
      have := Rat.mul_nonneg (Rat.intCast_nonneg.mpr (show 0 ≤ -m by omega)) (Rat.le_of_lt hi)
      rw [Rat.intCast_neg, Rat.neg_mul] at this
      grind
    rcases Rat.le_total (a := 0) (b := Rat.divInt m l) with h4 | h4
    · have : Rat.divInt m l = 0 := Rat.le_antisymm h3 h4
      rw [this]; decide
    · exact absR_neg h4
theorem abs_nat (i : Int) : (if i < 0 then -i else i) = ((i.natAbs : Nat) : Int) := by split <;> omega
theorem asg_mk {de : DE} {dg : DG} {e : DEnds} {δ : DEn} (h : de e.ex δ fun d => dg d δ e.nx) : dAsg de dg e δ := h
theorem op_mk {rd : RD2} {da db : DE} {ex : DX} {δ : DEn} {Q : PyData → Prop} (h : da ex δ fun x => db ex δ fun y => rd x y Q) : dOp rd da db ex δ Q := h
theorem bvar_mk {i : Nat} {ex : DX} {δ : DEn} {Q : PyData → Prop} {d : PyData} (h : slot δ i = some (.dat d)) (q : Q d) : dBVar i ex δ Q := by unfold dBVar; rw [h]; exact q
theorem ixk_mk {i k : Nat} {ex : DX} {δ : DEn} {Q : PyData → Prop} {ds : List PyData} {d : PyData} (h : slot δ i = some (.dat (.tuple ds))) (hk : nth ds k = some d) (q : Q d) : dIxK k (dVar i) ex δ Q := by unfold dIxK dVar; rw [h]; show (match nth ds k with | some d => Q d | none => False); rw [hk]; exact q
theorem oI_mk {C : Int → Int → Prop} {f : Int → Int → Int} {a b : Int} {Q : PyData → Prop} (c : C a b) (h : Q (.int (f a b))) : oI C f (.int a) (.int b) Q := ⟨c, h⟩
theorem oI0_mk {f : Int → Int → Int} {a b : Int} {Q : PyData → Prop} (h : Q (.int (f a b))) : oI0 f (.int a) (.int b) Q := h
theorem abs_mk {i : Nat} {ex : DX} {δ : DEn} {Q : PyData → Prop} {n m : Int} (h : slot δ i = some (.dat (.int n))) (e : (if n < 0 then -n else n) = m) (q : Q (.int m)) : dCb bAbs (dCons (dBVar i) dNil) ex δ Q := by
  unfold dCb dCons dBVar dNil; rw [h]; show Q (.int (if n < 0 then -n else n)); rw [e]; exact q
theorem gvName_mk {i : Nat} {d : PyData} {δ : DEn} {Q : DEn → Prop} (h : Q (put (some (.dat d)) i δ)) : gvName i d δ Q := h
theorem nx_mk {F : DEn → Prop} {rt : Sl → Prop} {ex : DX} {bk ct : DEn → Prop} {δ : DEn} (h : F δ) : DEnds.nx ⟨F, rt, ex, bk, ct⟩ δ := h
theorem put_mk {i : Nat} {δ δ' : DEn} {s : Option Sl} {Q : DEn → Prop} (e : put s i δ = δ') (h : Q δ') : Q (put s i δ) := by rw [e]; exact h
theorem oI0_is {f : Int → Int → Int} {a b c : Int} {Q : PyData → Prop} (e : f a b = c) (h : Q (.int c)) : oI0 f (.int a) (.int b) Q := by
  show Q (.int (f a b)); rw [e]; exact h
noncomputable def SBw (E dw i : Nat) (t b : Int) : Prop := 0 < b ∧ b.natAbs ≤ 10 ^ (E * i) ∧ t.natAbs ≤ 10 ^ (dw + E + 3 + (E + 1) * i)
theorem SBw.zero {E dw : Nat} : SBw E dw 0 0 1 := ⟨by decide, by rw [Nat.mul_zero]; decide, Nat.zero_le _⟩
theorem SBw.step {E dw i : Nat} {t b low u : Int} (h : SBw E dw i t b) (l0 : 0 < low) (lB : low.natAbs ≤ 10 ^ E) (uB : u.natAbs ≤ 10 ^ (dw + E + 2)) : SBw E dw (i + 1) (t * low + u * b) (b * low) := by
  obtain ⟨b0, bB, tB⟩ := h
  refine ⟨Int.mul_pos b0 l0, ?_, ?_⟩
  · rw [Int.natAbs_mul, show E * (i + 1) = E * i + E by rw [Nat.mul_add, Nat.mul_one]]
    exact mul_ten bB lB
  · have e : dw + E + 3 + (E + 1) * (i + 1) = dw + E + 3 + (E + 1) * i + E + 1 := by rw [Nat.mul_add, Nat.mul_one]; omega
    have e2 : (E + 1) * i = E * i + i := by rw [Nat.add_mul, Nat.one_mul]
    have h1 : (t * low).natAbs ≤ 10 ^ (dw + E + 3 + (E + 1) * i + E) := by rw [Int.natAbs_mul]; exact mul_ten tB lB
    have h2 : (u * b).natAbs ≤ 10 ^ (dw + E + 3 + (E + 1) * i + E) := by
      rw [Int.natAbs_mul]
      exact Nat.le_trans (mul_ten uB bB) (Nat.pow_le_pow_right (by decide) (by omega))
    have h3 := two_ten (B := 10 ^ (dw + E + 3 + (E + 1) * i + E)) (Nat.le_refl _)
    rw [e]
    generalize 10 ^ (dw + E + 3 + (E + 1) * i + E + 1) = N1 at *
    generalize 10 ^ (dw + E + 3 + (E + 1) * i + E) = N2 at *
    omega
theorem rr_low {a b x y : Rat} {aa ab ba bb xa xb ya yb : Int} (e1 : a.num = aa) (e2 : (a.den : Int) = ab) (e3 : b.num = ba) (e4 : (b.den : Int) = bb) (e5 : x.num = xa) (e6 : (x.den : Int) = xb) (e7 : y.num = ya) (e8 : (y.den : Int) = yb) :
    0 < bb * xb * ab * yb ∧ Rat.divInt (ya * (bb * xb * ab) - (aa * (bb * xb) + ba * xa * ab) * yb) (bb * xb * ab * yb) = y - (a + b * x) := by
  have p1 := Fm.den_pos a
  have p2 := Fm.den_pos b
  have p3 := Fm.den_pos x
  have p4 := Fm.den_pos y
  have h0 : 0 < bb * xb * ab * yb := Int.mul_pos (Int.mul_pos (Int.mul_pos (by omega) (by omega)) (by omega)) (by omega)
  refine ⟨h0, (Fm.eq_divInt (by omega) ?_).symm⟩
  have n1 := Fm.num_eq a
  have n2 := Fm.num_eq b
  have n3 := Fm.num_eq x
  have n4 := Fm.num_eq y
  have c : ∀ q : Rat, (q.den : Rat) = ((q.den : Int) : Rat) := fun q => (Rat.intCast_natCast _).symm
  rw [c, e1, e2] at n1
  rw [c, e3, e4] at n2
  rw [c, e5, e6] at n3
  rw [c, e7, e8] at n4
  simp only [Rat.intCast_mul, Rat.intCast_add, Rat.intCast_sub]
  rw [n1, n2, n3, n4]
  grind
theorem FS_snoc (ms : List Mk) (m : Mk) (l : Ln) : FS (ms ++ [m]) l = FS ms l + (m.2.2 : Rat) * absR (rr l m) := by
  unfold FS; rw [List.map_append, List.map_singleton, tot_snoc]
section
variable {P : Program} {w : World} {K : PySem.W.Frag} {mg : Str → Option Value} {base : Heap} {A : Adr}
noncomputable def wLawSum : DW := fun ds Q _ => ∃ (ms : List Mk) (l : Ln) (da db dx dy dw : Nat), ds = [.list (ms.map mk3), .list [fr l.1, fr l.2]] ∧ (∀ m ∈ ms, Dg dx m.1 ∧ Dg dy m.2.1 ∧ m.2.2.natAbs ≤ 10 ^ dw) ∧ Dg da l.1 ∧ Dg db l.2 ∧ dw + (da + db + dx + dy) + 3 + (da + db + dx + dy + 1) * ms.length ≤ 2400 ∧
  ∀ t b : Int, 0 < b → Wee b → Wee t → Rat.divInt t b = FS ms l → Q (.dat (.tuple [.int t, .int b]))
theorem ok_law_sum (T : Txt K mg A) : FnOk P w K mg base (CXE P w) 1 A.a_law_sum A.d_law_sum ["marks", "numbers"] (spW K wLawSum) := by
  refine okW T.F_law_sum sc_law_sum (fun ds Q E h => ?_) (fun cdv Ar outer s H E hr => ?_)
  · obtain ⟨_, _, _, _, _, _, _, rfl, _⟩ := h; rfl
  refine ⟨_, (pss_cons (ps_set (i := 2) sc_law_sum.nd rfl (Or.inl rfl) pe_int)
      (pss_cons (ps_set (i := 3) sc_law_sum.nd rfl (Or.inl rfl) pe_int)
      (pss_cons (ps_asg (pv 1) (pglK (K := K) (n := 2) rfl rfl (pgs_cons (pg_name (i := 4) sc_law_sum.nd rfl (Or.inl rfl)) (pgs_cons (pg_name (i := 5) sc_law_sum.nd rfl (Or.inl rfl)) pgs_nil))))
      (pss_cons (ps_for PassesOwn.leaving rfl (pilK (K := K) rfl (pv 0)) (pgtK (K := K) (n := 3) rfl rfl (pgs_cons (pg_name (i := 6) sc_law_sum.nd rfl (Or.inl rfl)) (pgs_cons (pg_name (i := 7) sc_law_sum.nd rfl (Or.inl rfl)) (pgs_cons (pg_name (i := 8) sc_law_sum.nd rfl (Or.inl rfl)) pgs_nil))))
        (pss_cons (ps_set (i := 9) sc_law_sum.nd rfl (Or.inl rfl) (pe_op op_mulB (pe_ix (ixtK (K := K) rfl) (pv 5) pe_int (fun _ _ => rfl)) (pe_ix (ixtK (K := K) rfl) (pv 6) pe_int (fun _ _ => rfl))))
      (pss_cons (ps_set (i := 10) sc_law_sum.nd rfl (Or.inl rfl) (pe_op op_add (pe_op op_mulB (pe_ix (ixtK (K := K) rfl) (pv 4) pe_int (fun _ _ => rfl)) (pv 9)) (pe_op op_mulB (pe_op op_mulB (pe_ix (ixtK (K := K) rfl) (pv 5) pe_int (fun _ _ => rfl)) (pe_ix (ixtK (K := K) rfl) (pv 6) pe_int (fun _ _ => rfl))) (pe_ix (ixtK (K := K) rfl) (pv 4) pe_int (fun _ _ => rfl)))))
      (pss_cons (ps_set (i := 9) sc_law_sum.nd rfl (Or.inl rfl) (pe_op op_mulB (pv 9) (pe_ix (ixtK (K := K) rfl) (pv 4) pe_int (fun _ _ => rfl))))
      (pss_cons (ps_set (i := 11) sc_law_sum.nd rfl (Or.inl rfl) (pe_op op_sub (pe_op op_mulB (pe_ix (ixtK (K := K) rfl) (pv 7) pe_int (fun _ _ => rfl)) (pv 9)) (pe_op op_mulB (pv 10) (pe_ix (ixtK (K := K) rfl) (pv 7) pe_int (fun _ _ => rfl)))))
      (pss_cons (ps_set (i := 9) sc_law_sum.nd rfl (Or.inl rfl) (pe_op op_mulB (pv 9) (pe_ix (ixtK (K := K) rfl) (pv 7) pe_int (fun _ _ => rfl))))
      (pss_cons (ps_set (i := 2) sc_law_sum.nd rfl (Or.inl rfl) (pe_op op_add (pe_op op_mulB (pv 2) (pv 9)) (pe_op op_mulB (pe_op op_mulB (pv 8) (pe_callB call_abs rfl T.n_abs bt_abs (pa_cons (pv 11) pa_nil))) (pv 3))))
      (pss_one (ps_set (i := 3) sc_law_sum.nd rfl (Or.inl rfl) (pe_op op_mulB (pv 3) (pv 9)))))))))))
      (pss_one (ps_ret (pe_tup (pa_cons (pv 2) (pa_cons (pv 3) pa_nil))))))))), _, (sv_seq (sv_asg ev_int (gv_name 2))
      (sv_seq (sv_asg ev_int (gv_name 3))
      (sv_seq (sv_asg (ev_var 1) (gv_lst (gs_cons (gv_name 4) (gs_cons (gv_name 5) gs_nil))))
      (sv_seq (sv_for (is_list (ev_var 0)) (gv_tup (gs_cons (gv_name 6) (gs_cons (gv_name 7) (gs_cons (gv_name 8) gs_nil))))
        (sv_seq (sv_asg (ev_op ro_i (bv_ev (ev_ixk 1 (ev_var 5))) (bv_ev (ev_ixk 1 (ev_var 6)))) (gv_name 9))
      (sv_seq (sv_asg (ev_op ro_i0 (bv_ev (ev_op ro_i (bv_ev (ev_ixk 0 (ev_var 4))) (bv_var 9))) (bv_ev (ev_op ro_i (bv_ev (ev_op ro_i (bv_ev (ev_ixk 0 (ev_var 5))) (bv_ev (ev_ixk 0 (ev_var 6))))) (bv_ev (ev_ixk 1 (ev_var 4)))))) (gv_name 10))
      (sv_seq (sv_asg (ev_op ro_i (bv_var 9) (bv_ev (ev_ixk 1 (ev_var 4)))) (gv_name 9))
      (sv_seq (sv_asg (ev_op ro_i0 (bv_ev (ev_op ro_i (bv_ev (ev_ixk 0 (ev_var 7))) (bv_var 9))) (bv_ev (ev_op ro_i (bv_var 10) (bv_ev (ev_ixk 1 (ev_var 7)))))) (gv_name 11))
      (sv_seq (sv_asg (ev_op ro_i (bv_var 9) (bv_ev (ev_ixk 1 (ev_var 7)))) (gv_name 9))
      (sv_seq (sv_asg (ev_op ro_i0 (bv_ev (ev_op ro_i (bv_var 2) (bv_var 9))) (bv_ev (ev_op ro_i (bv_ev (ev_op ro_i (bv_var 8) (bv_ev (ev_cb rb_abs (av_cons (bv_var 11) av_nil))))) (bv_var 3)))) (gv_name 2))
      (sv_asg (ev_op ro_i (bv_var 3) (bv_var 9)) (gv_name 3)))))))))
      (sv_ret (bv_ev (ev_tup (ae_cons (ev_var 2) (ae_cons (ev_var 3) ae_nil)) (by decide)))))))), ?_⟩
  rintro ds Q X ⟨ms, l, da, db, dx, dy, dw, rfl, hm, ha, hb, hE, k⟩
  obtain ⟨E, eE⟩ : ∃ E, da + db + dx + dy = E := ⟨_, rfl⟩
  rw [eE] at hE
  obtain ⟨aa, ab, fa, haa, hab⟩ : ∃ aa ab : Int, fr l.1 = .tuple [.int aa, .int ab] ∧ l.1.num = aa ∧ (l.1.den : Int) = ab := ⟨_, _, rfl, rfl, rfl⟩
  obtain ⟨ba, bb, fb, hba, hbb⟩ : ∃ ba bb : Int, fr l.2 = .tuple [.int ba, .int bb] ∧ l.2.num = ba ∧ (l.2.den : Int) = bb := ⟨_, _, rfl, rfl, rfl⟩
  have aaB : aa.natAbs ≤ 10 ^ da := by rw [← haa]; exact ha.n
  have abB : ab.natAbs ≤ 10 ^ da := by rw [← hab]; exact ha.d
  have baB : ba.natAbs ≤ 10 ^ db := by rw [← hba]; exact hb.n
  have bbB : bb.natAbs ≤ 10 ^ db := by rw [← hbb]; exact hb.d
  have wE : ∀ {n : Nat} {i : Int}, i.natAbs ≤ 10 ^ n → n ≤ dw + E + 3 → Wee i := fun {n i} h hn => tenWee h (by omega)
  rw [fa, fb]
  walk_at "s"
  walk_at "s"
  walk_at "s"
  refine seq_mk (for_map (fun m : Mk => PyData.tuple [fr m.1, fr m.2.1, .int m.2.2]) ms (fun Q h => by walk_at "d"; exact h)
    (fun i δ => ∃ (t b : Int) (s6 s7 s8 s9 s10 s11 : Option PyData), δ = [some (.dat (.list (ms.map mk3))), some (.dat (.list [.tuple [.int aa, .int ab], .tuple [.int ba, .int bb]])), some (.dat (.int t)), some (.dat (.int b)), some (.dat (.tuple [.int aa, .int ab])), some (.dat (.tuple [.int ba, .int bb])), s6.map Sl.dat, s7.map Sl.dat, s8.map Sl.dat, s9.map Sl.dat, s10.map Sl.dat, s11.map Sl.dat] ∧ SBw E dw i t b ∧ Rat.divInt t b = FS (ms.take i) l)
    ⟨0, 1, none, none, none, none, none, none, rfl, SBw.zero, by rw [List.take_zero, dv1]; rfl⟩ ?_ ?_)
  · rintro i m δ hi ⟨t, b, s6, s7, s8, s9, s10, s11, rfl, hs, hv⟩
    have hi2 := (List.getElem?_eq_some_iff.mp hi).1
    obtain ⟨mx, my, mw⟩ := hm m (List.mem_of_getElem? hi)
    have iE : (E + 1) * (i + 1) ≤ (E + 1) * ms.length := Nat.mul_le_mul_left _ (by omega)
    have iE2 : E * i ≤ (E + 1) * i := Nat.mul_le_mul_right _ (by omega)
    rw [Nat.mul_add, Nat.mul_one] at iE
    have wb : Wee b := tenWee hs.2.1 (by omega)
    have wt : Wee t := tenWee hs.2.2 (by omega)
    obtain ⟨xa, xb, fx, hxa, hxb⟩ : ∃ xa xb : Int, fr m.1 = .tuple [.int xa, .int xb] ∧ m.1.num = xa ∧ (m.1.den : Int) = xb := ⟨_, _, rfl, rfl, rfl⟩
    obtain ⟨ya, yb, fy, hya, hyb⟩ : ∃ ya yb : Int, fr m.2.1 = .tuple [.int ya, .int yb] ∧ m.2.1.num = ya ∧ (m.2.1.den : Int) = yb := ⟨_, _, rfl, rfl, rfl⟩
    have xaB : xa.natAbs ≤ 10 ^ dx := by rw [← hxa]; exact mx.n
    have xbB : xb.natAbs ≤ 10 ^ dx := by rw [← hxb]; exact mx.d
    have yaB : ya.natAbs ≤ 10 ^ dy := by rw [← hya]; exact my.n
    have ybB : yb.natAbs ≤ 10 ^ dy := by rw [← hyb]; exact my.d
    obtain ⟨low0, rl⟩ := rr_low haa hab hba hbb hxa hxb hya hyb
    rw [fx, fy]
    generalize ewt : m.2.2 = v at mw ⊢
    have mt : ∀ {p q : Int} {c d : Nat}, p.natAbs ≤ 10 ^ c → q.natAbs ≤ 10 ^ d → (p * q).natAbs ≤ 10 ^ (c + d) := fun {p q c d} h1 h2 => by rw [Int.natAbs_mul]; exact mul_ten h1 h2
    obtain ⟨l1, el1⟩ : ∃ l1, bb * xb = l1 := ⟨_, rfl⟩
    have l1B : l1.natAbs ≤ 10 ^ (db + dx) := by rw [← el1]; exact mt bbB xbB
    rw [el1] at low0 rl
    walk_at "s"
    refine ⟨mulOk (wE bbB (by omega)) (wE xbB (by omega)), ?_⟩
    rw [el1]
    obtain ⟨z1, ez1⟩ : ∃ z1, ba * xa = z1 := ⟨_, rfl⟩
    have z1B : z1.natAbs ≤ 10 ^ (db + dx) := by rw [← ez1]; exact mt baB xaB
    obtain ⟨ld, eld⟩ : ∃ ld, aa * l1 + z1 * ab = ld := ⟨_, rfl⟩
    have ldB : ld.natAbs ≤ 10 ^ (da + db + dx + 1) := by
      have q1 := mt aaB l1B
      have q2 := mt z1B abB
      have q3 := two_ten (B := 10 ^ (da + (db + dx))) (Nat.le_refl _)
      rw [show db + dx + da = da + (db + dx) by omega] at q2
      rw [← eld, show da + db + dx + 1 = da + (db + dx) + 1 by omega]
      generalize 10 ^ (da + (db + dx) + 1) = N1 at *
      generalize 10 ^ (da + (db + dx)) = N2 at *
      omega
    rw [ez1, eld] at rl
    refine seq_mk (asg_mk ?_)
    refine op_mk (op_mk (ixk_mk rfl rfl (bvar_mk rfl (oI_mk (mulOk (wE aaB (by omega)) (wE l1B (by omega))) ?_))))
    refine op_mk (op_mk (ixk_mk rfl rfl (ixk_mk rfl rfl (oI_mk (mulOk (wE baB (by omega)) (wE xaB (by omega))) ?_))))
    rw [ez1]
    refine ixk_mk rfl rfl (oI_mk (mulOk (wE z1B (by omega)) (wE abB (by omega))) ?_)
    refine oI0_is eld (gvName_mk (nx_mk (put_mk rfl ?_)))
    obtain ⟨l2, el2⟩ : ∃ l2, l1 * ab = l2 := ⟨_, rfl⟩
    have l2B : l2.natAbs ≤ 10 ^ (db + dx + da) := by rw [← el2]; exact mt l1B abB
    rw [el2] at low0 rl
    refine seq_mk (asg_mk ?_)
    refine op_mk (bvar_mk rfl (ixk_mk rfl rfl (oI_mk (mulOk (wE l1B (by omega)) (wE abB (by omega))) ?_)))
    rw [el2]
    refine gvName_mk (nx_mk (put_mk rfl ?_))
    obtain ⟨mi, emi⟩ : ∃ mi, ya * l2 - ld * yb = mi := ⟨_, rfl⟩
    have miB : mi.natAbs ≤ 10 ^ (E + 2) := by
      have q1 := mt yaB l2B
      have q2 := mt ldB ybB
      have q1' : (ya * l2).natAbs ≤ 10 ^ (E + 1) := Nat.le_trans q1 (Nat.pow_le_pow_right (by decide) (by omega))
      have q2' : (ld * yb).natAbs ≤ 10 ^ (E + 1) := Nat.le_trans q2 (Nat.pow_le_pow_right (by decide) (by omega))
      have q3 := two_ten (B := 10 ^ (E + 1)) (Nat.le_refl _)
      rw [← emi]
      rw [show E + 2 = E + 1 + 1 by omega]
      generalize 10 ^ (E + 1 + 1) = N1 at *
      generalize 10 ^ (E + 1) = N2 at *
      omega
    rw [emi] at rl
    refine seq_mk (asg_mk ?_)
    refine op_mk (op_mk (ixk_mk rfl rfl (bvar_mk rfl (oI_mk (mulOk (wE yaB (by omega)) (wE l2B (by omega))) ?_))))
    refine op_mk (bvar_mk rfl (ixk_mk rfl rfl (oI_mk (mulOk (wE ldB (by omega)) (wE ybB (by omega))) ?_)))
    refine oI0_is emi (gvName_mk (nx_mk (put_mk rfl ?_)))
    obtain ⟨l3, el3⟩ : ∃ l3, l2 * yb = l3 := ⟨_, rfl⟩
    have l3B : l3.natAbs ≤ 10 ^ E := by rw [← el3]; exact Nat.le_trans (mt l2B ybB) (Nat.pow_le_pow_right (by decide) (by omega))
    rw [el3] at low0 rl
    refine seq_mk (asg_mk ?_)
    refine op_mk (bvar_mk rfl (ixk_mk rfl rfl (oI_mk (mulOk (wE l2B (by omega)) (wE ybB (by omega))) ?_)))
    rw [el3]
    refine gvName_mk (nx_mk (put_mk rfl ?_))
    obtain ⟨am, ham, amB⟩ : ∃ am : Int, (if mi < 0 then -mi else mi) = am ∧ am.natAbs ≤ 10 ^ (E + 2) := ⟨_, rfl, by rw [abs_nat, Int.natAbs_natCast]; exact miB⟩
    have uB : (v * am).natAbs ≤ 10 ^ (dw + E + 2) := by
      have := mt mw amB
      rwa [show dw + (E + 2) = dw + E + 2 by omega] at this
    refine seq_mk (asg_mk ?_)
    refine op_mk (op_mk (bvar_mk rfl (bvar_mk rfl (oI_mk (mulOk wt (wE l3B (by omega))) ?_))))
    refine op_mk (op_mk (bvar_mk rfl (abs_mk rfl ham (oI_mk (mulOk (wE mw (by omega)) (wE amB (by omega))) ?_))))
    refine bvar_mk rfl (oI_mk (mulOk (wE uB (by omega)) wb) (oI0_mk (gvName_mk (nx_mk (put_mk rfl ?_)))))
    refine asg_mk (op_mk (bvar_mk rfl (bvar_mk rfl (oI_mk (mulOk wb (wE l3B (by omega))) ?_))))
    refine gvName_mk (nx_mk ?_)
    refine ⟨_, _, some _, some _, some _, some _, some _, some _, rfl, hs.step low0 l3B uB, ?_⟩
    rw [take_snoc hi, FS_snoc, ← hv, add_div2 hs.1 low0]
    congr 1
    have er : rr l m = Rat.divInt mi l3 := rl.symm
    rw [er, absR_divInt low0, ← abs_nat, ham, ewt, Fm.mk_div _ _ (by omega), Fm.mk_div _ _ (by omega), Rat.intCast_mul, Rat.div_def, Rat.div_def, Rat.mul_assoc]
  rintro δ ⟨t, b, s6, s7, s8, s9, s10, s11, rfl, hs, hv⟩
  have iE2 : E * ms.length ≤ (E + 1) * ms.length := Nat.mul_le_mul_right _ (by omega)
  rw [List.take_length] at hv
  walk_at "d"
  exact k t b hs.1 (tenWee hs.2.1 (by omega)) (tenWee hs.2.2 (by omega)) hv
end
theorem dv_lt {u v b : Int} (hb : 0 < b) (h : u < v) : Rat.divInt u b < Rat.divInt v b := by
  have b0 : (0 : Rat) < (b : Rat) := Rat.intCast_pos.mpr hb
  have e1 : Rat.divInt u b * (b : Rat) = (u : Rat) := by rw [Rat.divInt_eq_div]; exact Rat.div_mul_cancel (by grind)
  have e2 : Rat.divInt v b * (b : Rat) = (v : Rat) := by rw [Rat.divInt_eq_div]; exact Rat.div_mul_cancel (by grind)
  have h' : (u : Rat) < (v : Rat) := Rat.intCast_lt_intCast.mpr h
  refine Rat.not_le.mp fun c => ?_
  have := Rat.mul_nonneg (show 0 ≤ Rat.divInt u b - Rat.divInt v b by grind) (Rat.le_of_lt b0)
  grind
structure M42 (B : Nat) (ms : List Mk) : Prop where
  n1 : 1 ≤ ms.length
  n16 : ms.length ≤ 16
  B0 : 0 < B
  B1 : B ≤ 10 ^ 6
  x : ∀ m ∈ ms, Cm B (10 ^ 9) m.1
  y : ∀ m ∈ ms, Cm (5040 * B) (10 ^ 20) m.2.1
  w : ∀ m ∈ ms, 1 ≤ m.2.2 ∧ m.2.2 ≤ 10 ^ 9
  up : ms.Pairwise fun a b => a.1 < b.1
theorem M42.sz {B : Nat} {ms : List Mk} (Z : M42 B ms) : LSz (5040 * B) ms :=
  ⟨Z.n1, by have := Z.n16; omega, by have := Z.B0; omega, by have := Z.B1; omega, fun m h => (Z.x m h).mono (Nat.dvd_mul_left _ _) (by decide +kernel), fun m h => (Z.y m h).mono (Nat.dvd_refl _) (by decide +kernel), fun m h => ⟨(Z.w m h).1, by have := (Z.w m h).2; omega⟩, Z.up⟩
section
variable {P : Program} {w : World} {K : PySem.W.Frag} {mg : Str → Option Value} {base : Heap} {A : Adr}
noncomputable def wMarks42 : DW := fun ds Q _ => ∃ (ns : List Int) (mo : Int), ds = [.list (ns.map .int), .int mo] ∧ 1 ≤ mo ∧ mo ≤ 12 ∧ ns.length ≤ 63 ∧ (∀ v ∈ ns, Builtin.Int.intBits v ≤ 1048576) ∧ ∀ (ms : List Mk) (B : Nat), M42 B ms → (ms.length : Int) ≤ mo → Q (.own (ms.map mk3))
theorem ok_law_marks (T : Txt K mg A) : FnOk P w K mg base (CXE P w) 5 A.a_law_marks A.d_law_marks ["script", "most"] (spW K wMarks42) := by
  have G_law_cell := ok_law_cell (P := P) (w := w) (base := base) T
  have G_law_low := ok_law_low (P := P) (w := w) (base := base) T
  have G_law_height := ok_law_height (P := P) (w := w) (base := base) T
  refine okW T.F_law_marks sc_law_marks (fun ds Q E h => ?_) (fun cdv Ar outer s H E hr => ?_)
  · obtain ⟨_, _, rfl, _⟩ := h; rfl
  refine ⟨_, (pss_cons (ps_set (i := 2) sc_law_marks.nd rfl (Or.inl rfl) (pe_op op_mod (pe_call G_law_cell (hr.mono (by decide)) rfl T.m_law_cell T.F_law_cell.kp T.b_law_cell .nil passE0 (pa_cons (pv 0) (pa_cons pe_int pa_nil))) pe_int))
      (pss_cons (ps_set (i := 3) sc_law_marks.nd rfl (Or.inl rfl) (pe_lst (pa_cons (pe_op op_sub (pe_op op_mod (pe_op op_fdivB (pe_call G_law_cell (hr.mono (by decide)) rfl T.m_law_cell T.F_law_cell.kp T.b_law_cell .nil passE0 (pa_cons (pv 0) (pa_cons pe_int pa_nil))) pe_int) pe_int) pe_int) (pa_cons (pe_op op_sub (pe_op op_mod (pe_call G_law_cell (hr.mono (by decide)) rfl T.m_law_cell T.F_law_cell.kp T.b_law_cell .nil passE0 (pa_cons (pv 0) (pa_cons pe_int pa_nil))) pe_int) pe_int) pa_nil))))
      (pss_cons (ps_set (i := 4) sc_law_marks.nd rfl (Or.inl rfl) (pe_ix (ixlK (K := K) rfl) (pe_lst (pa_cons pe_int (pa_cons pe_int (pa_cons pe_int (pa_cons (pe_op op_add pe_int (pe_op op_mod (pe_op op_fdivB (pe_call G_law_cell (hr.mono (by decide)) rfl T.m_law_cell T.F_law_cell.kp T.b_law_cell .nil passE0 (pa_cons (pv 0) (pa_cons pe_int pa_nil))) pe_int) (pe_op op_pow pe_int pe_int))) pa_nil))))) (pe_op op_mod (pe_op op_fdivB (pe_call G_law_cell (hr.mono (by decide)) rfl T.m_law_cell T.F_law_cell.kp T.b_law_cell .nil passE0 (pa_cons (pv 0) (pa_cons pe_int pa_nil))) pe_int) pe_int) (fun _ _ => rfl)))
      (pss_cons (ps_set (i := 5) sc_law_marks.nd rfl (Or.inl rfl) (pe_op op_sub (pe_op op_mod (pe_op op_fdivB (pe_call G_law_cell (hr.mono (by decide)) rfl T.m_law_cell T.F_law_cell.kp T.b_law_cell .nil passE0 (pa_cons (pv 0) (pa_cons pe_int pa_nil))) pe_int) pe_int) pe_int))
      (pss_cons (ps_set (i := 6) sc_law_marks.nd rfl (Or.inl rfl) (pe_lst pa_nil))
      (pss_cons (ps_for PassesOwn.leaving rfl (pi_range1 rfl T.n_range (pa_cons (pe_op op_add pe_int (pe_op op_mod (pe_call G_law_cell (hr.mono (by decide)) rfl T.m_law_cell T.F_law_cell.kp T.b_law_cell .nil passE0 (pa_cons (pv 0) (pa_cons pe_int pa_nil))) (pv 1))) pa_nil)) (pg_name (i := 7) sc_law_marks.nd rfl (Or.inl rfl))
        (pss_cons (ps_set (i := 5) sc_law_marks.nd rfl (Or.inl rfl) (pe_op op_add (pe_op op_add (pv 5) pe_int) (pe_op op_mod (pe_call G_law_cell (hr.mono (by decide)) rfl T.m_law_cell T.F_law_cell.kp T.b_law_cell .nil passE0 (pa_cons (pv 0) (pa_cons (pe_op op_add pe_int (pe_op op_mulB pe_int (pv 7))) pa_nil))) (pe_ix (ixlK (K := K) rfl) (pe_lst (pa_cons pe_int (pa_cons pe_int (@pa_cons _ _ _ _ _ (pe_op op_pow pe_int pe_int) pa_nil se_bin)))) (pe_op op_mod (pe_call G_law_cell (hr.mono (by decide)) rfl T.m_law_cell T.F_law_cell.kp T.b_law_cell .nil passE0 (pa_cons (pv 0) (pa_cons pe_int pa_nil))) pe_int) (fun _ _ => rfl)))))
      (pss_cons (ps_set (i := 8) sc_law_marks.nd rfl (Or.inl rfl) (pe_call G_law_low (hr.mono (by decide)) rfl T.m_law_low T.F_law_low.kp T.b_law_low .nil passE0 (pa_cons (pv 5) (pa_cons (pv 4) pa_nil))))
      (pss_cons (ps_set (i := 9) sc_law_marks.nd rfl (Or.inl rfl) (pe_call G_law_cell (hr.mono (by decide)) rfl T.m_law_cell T.F_law_cell.kp T.b_law_cell .nil passE0 (pa_cons (pv 0) (pa_cons (pe_op op_add pe_int (pe_op op_mulB pe_int (pv 7))) pa_nil))))
      (pss_cons (ps_set (i := 9) sc_law_marks.nd rfl (Or.inl rfl) (pe_op op_add pe_int (pe_op op_mod (pv 9) (pe_ix (ixlK (K := K) rfl) (pe_lst (pa_cons pe_int (pa_cons pe_int (@pa_cons _ _ _ _ _ (pe_op op_pow pe_int pe_int) pa_nil se_bin)))) (pe_op op_mod (pe_op op_fdivB (pe_call G_law_cell (hr.mono (by decide)) rfl T.m_law_cell T.F_law_cell.kp T.b_law_cell .nil passE0 (pa_cons (pv 0) (pa_cons pe_int pa_nil))) pe_int) pe_int) (fun _ _ => rfl)))))
      (pss_one (ps_expr (pe_bm PySem.F.plainAttrs_list PySem.F.slot_list_append PySem.F.type_list_append mt_append (pv 6) (pa_cons (pe_tup (pa_cons (pv 8) (pa_cons (pe_call G_law_height (hr.mono (by decide)) rfl T.m_law_height T.F_law_height.kp T.b_law_height .nil passE0 (pa_cons (pe_call G_law_cell (hr.mono (by decide)) rfl T.m_law_cell T.F_law_cell.kp T.b_law_cell .nil passE0 (pa_cons (pv 0) (pa_cons (pe_op op_add pe_int (pe_op op_mulB pe_int (pv 7))) pa_nil))) (pa_cons (pv 2) (pa_cons (pv 8) (pa_cons (pv 3) pa_nil))))) (pa_cons (pv 9) pa_nil)))) pa_nil)))))))))
      (pss_one (ps_ret (pv 6))))))))), _, (sv_seq (sv_asg (ev_mdk (k := 4) (by decide) (bv_ev (ev_call0 (av_cons (bv_var 0) (av_cons (bv_ev ev_int) av_nil)))) ev_int) (gv_name 2))
      (sv_seq (sv_setO 3 (ov_lst (ae_cons (ev_op ro_i0 (bv_ev (ev_mdk (k := 13) (by decide) (bv_ev (ev_dvk (k := 4) (cdiv (by decide +kernel)) (bv_ev (ev_call0 (av_cons (bv_var 0) (av_cons (bv_ev ev_int) av_nil)))) ev_int)) ev_int)) (bv_ev ev_int)) (ae_cons (ev_op ro_i0 (bv_ev (ev_mdk (k := 13) (by decide) (bv_ev (ev_call0 (av_cons (bv_var 0) (av_cons (bv_ev ev_int) av_nil)))) ev_int)) (bv_ev ev_int)) ae_nil)) (by decide)))
      (sv_seq (sv_asg (ev_ixl (lv_ov (ov_lst (ae_cons ev_int (ae_cons ev_int (ae_cons ev_int (ae_cons (ev_op ro_i0 (bv_ev ev_int) (bv_ev (ev_mdk (k := 1000000) (by decide) (bv_ev (ev_dvk (k := 13) (cdiv (by decide +kernel)) (bv_ev (ev_call0 (av_cons (bv_var 0) (av_cons (bv_ev ev_int) av_nil)))) ev_int)) (ev_k (v := 1000000) (ev_op ro_i (bv_ev ev_int) (bv_ev ev_int)) (fun ex δ Q h => ⟨cpow (by decide +kernel), Eq.mpr (congrArg (fun z => Q (.int z)) (by decide +kernel : ((10 ^ Int.toNat 6) : Int) = 1000000)) h⟩))))) ae_nil)))) (by decide))) (bv_ev (ev_mdk (k := 4) (by decide) (bv_ev (ev_dvk (k := 60) (cdiv (by decide +kernel)) (bv_ev (ev_call0 (av_cons (bv_var 0) (av_cons (bv_ev ev_int) av_nil)))) ev_int)) ev_int))) (gv_name 4))
      (sv_seq (sv_asg (ev_op ro_i0 (bv_ev (ev_mdk (k := 41) (by decide) (bv_ev (ev_dvk (k := 13) (cdiv (by decide +kernel)) (bv_ev (ev_call0 (av_cons (bv_var 0) (av_cons (bv_ev ev_int) av_nil)))) ev_int)) ev_int)) (bv_ev ev_int)) (gv_name 5))
      (sv_seq (sv_setO 6 (ov_lst ae_nil (by decide)))
      (sv_seq (sv_for (is_rng1 (av_cons (bv_ev (ev_op ro_i0 (bv_ev ev_int) (bv_ev (ev_op ro_i (bv_ev (ev_call0 (av_cons (bv_var 0) (av_cons (bv_ev ev_int) av_nil)))) (bv_var 1))))) av_nil)) (gv_name 7)
        (sv_seq (sv_asg (ev_op ro_i0 (bv_ev (ev_op ro_i0 (bv_var 5) (bv_ev ev_int))) (bv_ev (ev_op ro_i (bv_ev (ev_call0 (av_cons (bv_var 0) (av_cons (bv_ev (ev_op ro_i0 (bv_ev ev_int) (bv_ev (ev_op ro_i (bv_ev ev_int) (bv_var 7))))) av_nil)))) (bv_ev (ev_ixl (lv_ov (ov_lst (ae_cons ev_int (ae_cons ev_int (ae_cons (ev_k (v := 1000000) (ev_op ro_i (bv_ev ev_int) (bv_ev ev_int)) (fun ex δ Q h => ⟨cpow (by decide +kernel), Eq.mpr (congrArg (fun z => Q (.int z)) (by decide +kernel : ((10 ^ Int.toNat 6) : Int) = 1000000)) h⟩)) ae_nil))) (by decide))) (bv_ev (ev_mdk (k := 3) (by decide) (bv_ev (ev_call0 (av_cons (bv_var 0) (av_cons (bv_ev ev_int) av_nil)))) ev_int))))))) (gv_name 5))
      (sv_seq (sv_asg (ev_call0 (av_cons (bv_var 5) (av_cons (bv_var 4) av_nil))) (gv_name 8))
      (sv_seq (sv_asg (ev_call0 (av_cons (bv_var 0) (av_cons (bv_ev (ev_op ro_i0 (bv_ev ev_int) (bv_ev (ev_op ro_i (bv_ev ev_int) (bv_var 7))))) av_nil))) (gv_name 9))
      (sv_seq (sv_asg (ev_op ro_i0 (bv_ev ev_int) (bv_ev (ev_op ro_i (bv_var 9) (bv_ev (ev_ixl (lv_ov (ov_lst (ae_cons ev_int (ae_cons ev_int (ae_cons (ev_k (v := 1000000000) (ev_op ro_i (bv_ev ev_int) (bv_ev ev_int)) (fun ex δ Q h => ⟨cpow (by decide +kernel), Eq.mpr (congrArg (fun z => Q (.int z)) (by decide +kernel : ((10 ^ Int.toNat 9) : Int) = 1000000000)) h⟩)) ae_nil))) (by decide))) (bv_ev (ev_mdk (k := 3) (by decide) (bv_ev (ev_dvk (k := 3) (cdiv (by decide +kernel)) (bv_ev (ev_call0 (av_cons (bv_var 0) (av_cons (bv_ev ev_int) av_nil)))) ev_int)) ev_int))))))) (gv_name 9))
      (sv_app 6 (ev_tup (ae_cons (ev_var 8) (ae_cons (ev_call0 (av_cons (bv_ev (ev_call0 (av_cons (bv_var 0) (av_cons (bv_ev (ev_op ro_i0 (bv_ev ev_int) (bv_ev (ev_op ro_i (bv_ev ev_int) (bv_var 7))))) av_nil)))) (av_cons (bv_var 2) (av_cons (bv_var 8) (av_cons (bv_var 3) av_nil))))) (ae_cons (ev_var 9) ae_nil))) (by decide))))))))
      (sv_retV 6))))))), ?_⟩
  rintro ds Q X ⟨ns, mo, rfl, mo1, mo12, hlen, hbits, k⟩
  have bg : ∀ j : Int, 0 ≤ j → j ≤ 1000 → Bg 1048577 (cellF ns j) := fun j h0 h1 => cellF_bg hbits h0 h1
  walk_at "s"
  refine ⟨ns, 1, rfl, by decide, by decide, ?_⟩
  walk_at "d"
  obtain ⟨sh, hsh, sh0, sh3⟩ : ∃ sh : Int, cellF ns 1 % 4 = sh ∧ 0 ≤ sh ∧ sh ≤ 3 := ⟨_, rfl, by omega, by omega⟩
  rw [hsh]
  walk_at "s"
  refine ⟨ns, 1, rfl, by decide, by decide, ?_⟩
  walk_at "d"
  refine ⟨ns, 2, rfl, by decide, by decide, ?_⟩
  walk_at "d"
  obtain ⟨l0, hl0, b0⟩ : ∃ l0 : Int, cellF ns 1 / 4 % 13 - 6 = l0 ∧ l0.natAbs ≤ 6 := ⟨_, rfl, by omega⟩
  obtain ⟨l1, hl1, b1⟩ : ∃ l1 : Int, cellF ns 2 % 13 - 6 = l1 ∧ l1.natAbs ≤ 6 := ⟨_, rfl, by omega⟩
  rw [hl0, hl1]
  walk_at "s"
  refine ⟨ns, 2, rfl, by decide, by decide, ?_⟩
  walk_at "d"
  refine ⟨ns, 0, rfl, by decide, by decide, ?_⟩
  walk_at "d"
  obtain ⟨bt, bt1, bt2, ab⟩ : ∃ bt : Int, 1 ≤ bt ∧ bt ≤ 10 ^ 6 ∧ atI [PyData.int 1, PyData.int 1, PyData.int 6, PyData.int (1 + cellF ns 2 / 13 % 1000000)] (cellF ns 0 / 60 % 4) = some (.int bt) := by
    obtain ⟨d, hd, e⟩ := atI_some (xs := [PyData.int 1, PyData.int 1, PyData.int 6, PyData.int (1 + cellF ns 2 / 13 % 1000000)]) (i := cellF ns 0 / 60 % 4) (by omega) (by show _ < (4 : Int); omega)
    simp only [List.mem_cons, List.not_mem_nil, or_false] at hd
    rcases hd with rfl | rfl | rfl | rfl
    · exact ⟨1, by decide, by decide, e⟩
    · exact ⟨1, by decide, by decide, e⟩
    · exact ⟨6, by decide, by decide, e⟩
    · exact ⟨_, by omega, by omega, e⟩
  refine ⟨_, ab, ?_⟩
  clear ab
  walk_at "s"
  refine ⟨ns, 2, rfl, by decide, by decide, ?_⟩
  walk_at "d"
  obtain ⟨v0, hv0, v0b⟩ : ∃ v0 : Int, cellF ns 2 / 13 % 41 - 20 = v0 ∧ v0.natAbs ≤ 20 := ⟨_, rfl, by omega⟩
  rw [hv0]
  clear hv0 hl0 hl1 hsh
  walk_at "s"
  have e00 := Int.emod_nonneg (cellF ns 0) (show mo ≠ 0 by omega)
  have e01 := Int.emod_lt_of_pos (cellF ns 0) (show 0 < mo by omega)
  obtain ⟨N, hN, N1, N12, Nmo⟩ : ∃ N : Nat, 1 + cellF ns 0 % mo = (N : Int) ∧ 1 ≤ N ∧ N ≤ 12 ∧ (N : Int) ≤ mo := ⟨(1 + cellF ns 0 % mo).toNat, by omega, by omega, by omega, by omega⟩
  obtain ⟨B, hB, B0, B1⟩ : ∃ B : Nat, bt = (B : Int) ∧ 0 < B ∧ B ≤ 10 ^ 6 := ⟨bt.toNat, by omega, by omega, by omega⟩
  refine seq_mk (for_rng (lo := 0) (st := 1) (n := N) (fun Q h => by
      walk_at "d"
      refine ⟨ns, 0, rfl, by decide, by decide, ?_⟩
      walk_at "d"
      refine ⟨by omega, ?_⟩
      rw [hN]
      refine ⟨by omega, ?_⟩
      rw [Int.toNat_natCast]; exact h)
    (fun i δ => ∃ (v : Int) (ms : List Mk) (o7 o8 o9 : Option PyData), δ = [some (.dat (.list (ns.map .int))), some (.dat (.int mo)), some (.dat (.int sh)), some (.own [.int l0, .int l1]), some (.dat (.int bt)), some (.dat (.int v)), some (.own (ms.map mk3)), o7.map Sl.dat, o8.map Sl.dat, o9.map Sl.dat] ∧ ms.length = i ∧ v.natAbs ≤ 20 + 1000001 * i ∧ (∀ m ∈ ms, Cm (5040 * B) (10 ^ 20) m.2.1) ∧ (∀ m ∈ ms, 1 ≤ m.2.2 ∧ m.2.2 ≤ 10 ^ 9) ∧ (∀ m ∈ ms, Cm B (10 ^ 9) m.1) ∧ (∀ m ∈ ms, ∃ u : Int, m.1 = Rat.divInt u bt ∧ u ≤ v) ∧ ms.Pairwise fun a b => a.1 < b.1)
    ⟨v0, [], none, none, none, rfl, rfl, by omega, (fun m h => nomatch h), (fun m h => nomatch h), (fun m h => nomatch h), (fun m h => nomatch h), List.Pairwise.nil⟩ ?_ ?_)
  · rintro i δ hi ⟨v, ms, o7, o8, o9, rfl, hl, hv, hh, hw, hp, hu, up⟩
    obtain ⟨kk, hk⟩ : ∃ kk : Int, (0 : Int) + (i : Int) * 1 = kk := ⟨_, rfl⟩
    rw [hk]
    have hk0 : 0 ≤ kk := by omega
    have hk1 : kk ≤ 12 := by omega
    obtain ⟨st, st1, st2, ast⟩ : ∃ st : Int, 1 ≤ st ∧ st ≤ 10 ^ 6 ∧ atI [PyData.int 3, PyData.int 9, PyData.int 1000000] (cellF ns 3 % 3) = some (.int st) := by
      obtain ⟨d, hd, e⟩ := atI_some (xs := [PyData.int 3, PyData.int 9, PyData.int 1000000]) (i := cellF ns 3 % 3) (by omega) (by show _ < (3 : Int); omega)
      simp only [List.mem_cons, List.not_mem_nil, or_false] at hd
      rcases hd with rfl | rfl | rfl
      · exact ⟨3, by decide, by decide, e⟩
      · exact ⟨9, by decide, by decide, e⟩
      · exact ⟨_, by decide, by decide, e⟩
    obtain ⟨wd, wd1, wd2, awd⟩ : ∃ wd : Int, 1 ≤ wd ∧ wd ≤ 10 ^ 9 ∧ atI [PyData.int 1, PyData.int 3, PyData.int 1000000000] (cellF ns 3 / 3 % 3) = some (.int wd) := by
      obtain ⟨d, hd, e⟩ := atI_some (xs := [PyData.int 1, PyData.int 3, PyData.int 1000000000]) (i := cellF ns 3 / 3 % 3) (by omega) (by show _ < (3 : Int); omega)
      simp only [List.mem_cons, List.not_mem_nil, or_false] at hd
      rcases hd with rfl | rfl | rfl
      · exact ⟨1, by decide, by decide, e⟩
      · exact ⟨3, by decide, by decide, e⟩
      · exact ⟨_, by decide, by decide, e⟩
    walk_at "s"
    refine ⟨mulOk (wee (by decide +kernel)) (weeLe (n := 12) (by omega) (by decide +kernel)), ns, 4 + 3 * kk, rfl, by omega, by omega, ?_⟩
    walk_at "d"
    refine ⟨ns, 3, rfl, by decide, by decide, ?_⟩
    walk_at "d"
    refine ⟨_, ast, ?_⟩
    clear ast
    walk_at "d"
    refine ⟨by omega, ?_⟩
    obtain ⟨v', hv', vb', vv⟩ : ∃ v' : Int, v + 1 + cellF ns (4 + 3 * kk) % st = v' ∧ v'.natAbs ≤ 20 + 1000001 * (i + 1) ∧ v < v' := by
      have e0 := Int.emod_nonneg (cellF ns (4 + 3 * kk)) (show st ≠ 0 by omega)
      have e1 := Int.emod_lt_of_pos (cellF ns (4 + 3 * kk)) (show 0 < st by omega)
      exact ⟨_, rfl, by omega, by omega⟩
    rw [hv']
    clear hv'
    walk_at "s"
    refine ⟨v', bt, rfl, bt1, weeLe (n := 10 ^ 6) (by omega) (by decide +kernel), ?_⟩
    walk_at "d"
    obtain ⟨p, hpp⟩ : ∃ p, Rat.divInt v' bt = p := ⟨_, rfl⟩
    have cp : Cm B (10 ^ 9) p := by
      rw [← hpp, hB]
      exact Cm.div B0 (Nat.dvd_refl _) (Nat.le_trans (Nat.le_trans vb' (Nat.le_trans (show 20 + 1000001 * (i + 1) ≤ 100000000 by omega) (by decide))) (Nat.le_mul_of_pos_right _ B0))
    rw [hpp]
    walk_at "s"
    refine ⟨mulOk (wee (by decide +kernel)) (weeLe (n := 12) (by omega) (by decide +kernel)), ns, 6 + 3 * kk, rfl, by omega, by omega, ?_⟩
    walk_at "d"
    walk_at "s"
    refine ⟨ns, 3, rfl, by decide, by decide, ?_⟩
    walk_at "d"
    refine ⟨_, awd, ?_⟩
    clear awd
    walk_at "d"
    refine ⟨by omega, ?_⟩
    obtain ⟨wt, hwt, wt1, wt2⟩ : ∃ wt : Int, 1 + cellF ns (6 + 3 * kk) % wd = wt ∧ 1 ≤ wt ∧ wt ≤ 10 ^ 9 := ⟨_, rfl, by
      have e0 := Int.emod_nonneg (cellF ns (6 + 3 * kk)) (show wd ≠ 0 by omega)
      omega, by
      have e1 := Int.emod_lt_of_pos (cellF ns (6 + 3 * kk)) (show 0 < wd by omega)
      omega⟩
    rw [hwt]
    clear hwt
    walk_at "d"
    refine ⟨mulOk (wee (by decide +kernel)) (weeLe (n := 12) (by omega) (by decide +kernel)), ns, 5 + 3 * kk, rfl, by omega, by omega, ?_⟩
    walk_at "d"
    refine ⟨_, sh, p, l0, l1, B, rfl, sh0, sh3, bg _ (by omega) (by omega), B0, B1, cp, b0, b1, fun q hq => ?_⟩
    walk_at "d"
    refine ⟨by omega, v', ms ++ [(p, q, wt)], some (.int kk), some (fr p), some (.int wt), ?_, by rw [List.length_append, hl]; rfl, vb', ?_, ?_, ?_, ?_, ?_⟩
    · rw [List.map_append]; rfl
    · intro m h
      rcases List.mem_append.mp h with h | h
      · exact hh m h
      · rw [List.mem_singleton.mp h]; exact hq
    · intro m h
      rcases List.mem_append.mp h with h | h
      · exact hw m h
      · rw [List.mem_singleton.mp h]; exact ⟨wt1, wt2⟩
    · intro m h
      rcases List.mem_append.mp h with h | h
      · exact hp m h
      · rw [List.mem_singleton.mp h]; exact cp
    · intro m h
      rcases List.mem_append.mp h with h | h
      · obtain ⟨u, e, l⟩ := hu m h
        exact ⟨u, e, by omega⟩
      · rw [List.mem_singleton.mp h]
        exact ⟨v', hpp.symm, by omega⟩
    · refine List.pairwise_append.mpr ⟨up, List.pairwise_singleton _ _, fun m hm z hz => ?_⟩
      rw [List.mem_singleton.mp hz]
      obtain ⟨u, e, l⟩ := hu m hm
      show m.1 < p
      rw [e, ← hpp]
      exact dv_lt (by omega) (by omega)
  rintro δ ⟨v, ms, o7, o8, o9, rfl, hl, hv, hh, hw, hp, hu, up⟩
  walk_at "d"
  exact k ms B ⟨by omega, by omega, B0, B1, hp, hh, hw, up⟩ (by omega)
end
theorem times_ff {a b : Rat} {n m : Nat} {Q : Sl → Prop} {X : DX} (ha : Dg n a) (hb : Dg m b) (l : n + m ≤ 2400) (k : Q (.dat (fr (a * b)))) : wTimesP [fr a, fr b] Q X := by
  have h1 := Fm.den_pos a
  have h2 := Fm.den_pos b
  refine ⟨a.num, a.den, b.num, b.den, n, m, rfl, by omega, by omega, ha.n, by have := ha.d; omega, hb.n, by have := hb.d; omega, l, ?_⟩
  rw [Rat.num_divInt_den, Rat.num_divInt_den]
  exact k
theorem M42.xd {B : Nat} {ms : List Mk} (Z : M42 B ms) {m : Mk} (h : m ∈ ms) : Dg 16 m.1 := (Z.x m h).dg Z.B0 (l := 6) Z.B1 (b := 9) (Nat.le_refl _)
theorem M42.yd {B : Nat} {ms : List Mk} (Z : M42 B ms) {m : Mk} (h : m ∈ ms) : Dg 31 m.2.1 := (Z.y m h).dg (by have := Z.B0; omega) (l := 10) (by have := Z.B1; omega) (b := 20) (Nat.le_refl _)
theorem M42.best {B : Nat} {ms : List Mk} (Z : M42 B ms) : Dg 80 (bestL ms).2 ∧ Dg 130 (bestL ms).1 := by
  obtain ⟨m, hm, e⟩ := bestL_mem Z.sz.ne
  obtain ⟨_, h2⟩ := lineAt_dg Z.sz hm
  have h1 : Dg 80 (lineAt ms m).2 := by
    unfold lineAt
    by_cases c : othM ms m = []
    · rw [if_pos c]; exact Dg.zero
    · rw [if_neg c]
      obtain ⟨z, hz, ez⟩ := (midF_mid (by simpa using c) (slp_pos (m := m) Z.sz.w1)).mem
      obtain ⟨o, ho, rfl⟩ := List.mem_map.mp hz
      show Dg 80 (midF _)
      rw [← ez]
      obtain ⟨g1, g2⟩ := List.mem_filter.mp ho
      have g3 : o.1 ≠ m.1 := of_decide_eq_true g2
      have dy : Dg 32 (o.2.1 - m.2.1) := (((Z.y o g1).sub (Z.y m hm)).mono (Nat.dvd_refl _) (show 10 ^ 20 + 10 ^ 20 ≤ 10 ^ 21 by decide)).dg (by have := Z.B0; omega) (l := 10) (by have := Z.B1; omega) (b := 21) (Nat.le_refl _)
      have dx : Dg 17 (o.1 - m.1) := (((Z.x o g1).sub (Z.x m hm)).mono (Nat.dvd_refl _) (show 10 ^ 9 + 10 ^ 9 ≤ 10 ^ 10 by decide)).dg Z.B0 (l := 6) Z.B1 (b := 10) (Nat.le_refl _)
      exact (dy.div dx (fun z => g3 (by grind))).mono (by decide)
  rw [e]
  refine ⟨h1, ?_⟩
  rw [h2]
  exact ((Z.yd hm).sub (h1.mul (Z.xd hm))).mono (by decide)
section
variable {P : Program} {w : World} {K : PySem.W.Frag} {mg : Str → Option Value} {base : Heap} {A : Adr}
noncomputable def wNum : DW := fun ds Q _ => ∃ c : Int, ds = [.int c] ∧ Bg 1048577 c ∧ ∀ q, Dg 13 q → Q (.dat (fr q))
theorem ok_law_number (T : Txt K mg A) : FnOk P w K mg base (CXE P w) 3 A.a_law_number A.d_law_number ["cell"] (spW K wNum) := by
  have G_law_low := ok_law_low (P := P) (w := w) (base := base) T
  refine okW T.F_law_number sc_law_number (fun ds Q E h => ?_) (fun cdv Ar outer s H E hr => ?_)
  · obtain ⟨_, rfl, _⟩ := h; rfl
  refine ⟨_, (pss_cons (ps_if (pt_cmpR op_eq (pe_op op_mod (pv 0) pe_int) pe_int (nomark _)) (pss_one (ps_ret (pe_call G_law_low (hr.mono (by decide)) rfl T.m_law_low T.F_law_low.kp T.b_law_low .nil passE0 (pa_cons (pe_op op_sub (pe_op op_mod (pe_op op_fdivB (pv 0) pe_int) pe_int) pe_int) (pa_cons (pe_op op_add pe_int (pe_op op_mod (pe_op op_fdivB (pv 0) pe_int) pe_int)) pa_nil))))) pss_nil)
      (pss_one (ps_ret (pe_call G_law_low (hr.mono (by decide)) rfl T.m_law_low T.F_law_low.kp T.b_law_low .nil passE0 (pa_cons (pe_op op_sub (pe_op op_mod (pe_op op_mulB (pv 0) pe_int) (pe_op op_add (pe_op op_mulB pe_int (pe_op op_pow pe_int pe_int)) pe_int)) (pe_op op_pow pe_int pe_int)) (pa_cons (pe_op op_add pe_int (pe_op op_mod (pe_op op_fdivB (pv 0) pe_int) pe_int)) pa_nil)))))), _, (sv_seq (sv_if (tv_test (bv_ev (ev_op ro_eq (bv_ev (ev_mdk (k := 2) (by decide) (bv_var 0) ev_int)) (bv_ev ev_int)))) (sv_ret (bv_ev (ev_call0 (av_cons (bv_ev (ev_op ro_i0 (bv_ev (ev_mdk (k := 25) (by decide) (bv_ev (ev_dvk (k := 2) (cdiv (by decide +kernel)) (bv_var 0) ev_int)) ev_int)) (bv_ev ev_int))) (av_cons (bv_ev (ev_op ro_i0 (bv_ev ev_int) (bv_ev (ev_mdk (k := 9) (by decide) (bv_ev (ev_dvk (k := 50) (cdiv (by decide +kernel)) (bv_var 0) ev_int)) ev_int)))) av_nil))))) sv_next)
      (sv_ret (bv_ev (ev_call0 (av_cons (bv_ev (ev_op ro_i0 (bv_ev (ev_mdk (k := 2000000000001) (by decide) (bv_ev (ev_op ro_i (bv_var 0) (bv_ev ev_int))) (ev_k (v := 2000000000001) (ev_op ro_i0 (bv_ev (ev_op ro_i (bv_ev ev_int) (bv_ev (ev_op ro_i (bv_ev ev_int) (bv_ev ev_int))))) (bv_ev ev_int)) (fun ex δ Q h => ⟨cpow (by decide +kernel), mulOk (wee (by decide +kernel)) (wee (by decide +kernel)), Eq.mpr (congrArg (fun z => Q (.int z)) (by decide +kernel : (((2 * (10 ^ Int.toNat 12)) + 1) : Int) = 2000000000001)) h⟩)))) (bv_ev (ev_k (v := 1000000000000) (ev_op ro_i (bv_ev ev_int) (bv_ev ev_int)) (fun ex δ Q h => ⟨cpow (by decide +kernel), Eq.mpr (congrArg (fun z => Q (.int z)) (by decide +kernel : ((10 ^ Int.toNat 12) : Int) = 1000000000000)) h⟩))))) (av_cons (bv_ev (ev_op ro_i0 (bv_ev ev_int) (bv_ev (ev_mdk (k := 9) (by decide) (bv_ev (ev_dvk (k := 2) (cdiv (by decide +kernel)) (bv_var 0) ev_int)) ev_int)))) av_nil)))))), ?_⟩
  rintro ds Q X ⟨c, rfl, bg, k⟩
  walk_at "s"
  refine ite2 (fun z => ?_) (fun z => ?_)
  · refine ⟨_, _, rfl, by omega, weeLe (n := 10) (by omega) (by decide +kernel), ?_⟩
    walk_at "d"
    refine k _ ?_
    exact Dg.of (by omega) (by omega) (by omega)
  · walk_at "d"
    refine ⟨mulOkBig (Nat.le_trans bg.bits (by decide)) (wee (by decide +kernel)), _, _, rfl, by omega, weeLe (n := 10) (by omega) (by decide +kernel), ?_⟩
    generalize c * 27644437 = z
    walk_at "d"
    refine k _ ?_
    exact Dg.of (by omega) (by omega) (by omega)
noncomputable def wLawLess : DW := fun ds Q _ => ∃ t b u c : Int, ds = [.tuple [.int t, .int b], .tuple [.int u, .int c]] ∧ Wee t ∧ Wee b ∧ Wee u ∧ Wee c ∧ Q (.dat (.bool (decide (t * c < u * b))))
theorem ok_law_less (T : Txt K mg A) : FnOk P w K mg base (CXE P w) 1 A.a_law_less A.d_law_less ["one", "other"] (spW K wLawLess) := by
  refine okW T.F_law_less sc_law_less (fun ds Q E h => ?_) (fun cdv Ar outer s H E hr => ?_)
  · obtain ⟨_, _, _, _, rfl, _⟩ := h; rfl
  refine ⟨_, (pss_one (ps_ret (pe_cmpR op_lt (pe_op op_mulB (pe_ix (ixtK (K := K) rfl) (pv 0) pe_int (fun _ _ => rfl)) (pe_ix (ixtK (K := K) rfl) (pv 1) pe_int (fun _ _ => rfl))) (pe_op op_mulB (pe_ix (ixtK (K := K) rfl) (pv 1) pe_int (fun _ _ => rfl)) (pe_ix (ixtK (K := K) rfl) (pv 0) pe_int (fun _ _ => rfl))) (nomark _)))), _, (sv_ret (bv_ev (ev_op ro_b0 (bv_ev (ev_op ro_i (bv_ev (ev_ixk 0 (ev_var 0))) (bv_ev (ev_ixk 1 (ev_var 1))))) (bv_ev (ev_op ro_i (bv_ev (ev_ixk 0 (ev_var 1))) (bv_ev (ev_ixk 1 (ev_var 0)))))))), ?_⟩
  rintro ds Q X ⟨t, b, u, c, rfl, w1, w2, w3, w4, k⟩
  walk_at "d"
  exact ⟨mulOk w1 w4, mulOk w3 w2, k⟩
noncomputable def wThr43 : DW := fun ds Q _ => ∃ m o : Mk, ds = [mk3 m, mk3 o] ∧ Dg 16 m.1 ∧ Dg 16 o.1 ∧ Dg 31 m.2.1 ∧ Dg 31 o.2.1 ∧ m.1 < o.1 ∧ ∀ a s, Dg 145 a → Dg 96 s → Q (.own [fr a, fr s])
theorem ok_law_through (T : Txt K mg A) : FnOk P w K mg base (CXE P w) 4 A.a_law_through A.d_law_through ["one", "other"] (spW K wThr43) := by
  have G_law_plus := ok_law_plus (P := P) (w := w) (base := base) T
  have G_law_times := ok_law_times (P := P) (w := w) (base := base) T
  have G_law_low := ok_law_low (P := P) (w := w) (base := base) T
  refine okW T.F_law_through sc_law_through (fun ds Q E h => ?_) (fun cdv Ar outer s H E hr => ?_)
  · obtain ⟨_, _, rfl, _⟩ := h; rfl
  refine ⟨_, (pss_cons (ps_set (i := 2) sc_law_through.nd rfl (Or.inl rfl) (pe_call G_law_plus (hr.mono (by decide)) rfl T.m_law_plus T.F_law_plus.kp T.b_law_plus .nil passE0 (pa_cons (pe_ix (ixtK (K := K) rfl) (pv 1) pe_int (fun _ _ => rfl)) (pa_cons (pe_tup (pa_cons (pe_un un_neg (pe_ix (ixtK (K := K) rfl) (pe_ix (ixtK (K := K) rfl) (pv 0) pe_int (fun _ _ => rfl)) pe_int (fun _ _ => rfl))) (pa_cons (pe_ix (ixtK (K := K) rfl) (pe_ix (ixtK (K := K) rfl) (pv 0) pe_int (fun _ _ => rfl)) pe_int (fun _ _ => rfl)) pa_nil))) pa_nil))))
      (pss_cons (ps_set (i := 3) sc_law_through.nd rfl (Or.inl rfl) (pe_call G_law_plus (hr.mono (by decide)) rfl T.m_law_plus T.F_law_plus.kp T.b_law_plus .nil passE0 (pa_cons (pe_ix (ixtK (K := K) rfl) (pv 1) pe_int (fun _ _ => rfl)) (pa_cons (pe_tup (pa_cons (pe_un un_neg (pe_ix (ixtK (K := K) rfl) (pe_ix (ixtK (K := K) rfl) (pv 0) pe_int (fun _ _ => rfl)) pe_int (fun _ _ => rfl))) (pa_cons (pe_ix (ixtK (K := K) rfl) (pe_ix (ixtK (K := K) rfl) (pv 0) pe_int (fun _ _ => rfl)) pe_int (fun _ _ => rfl)) pa_nil))) pa_nil))))
      (pss_cons (ps_set (i := 4) sc_law_through.nd rfl (Or.inl rfl) (pe_call G_law_low (hr.mono (by decide)) rfl T.m_law_low T.F_law_low.kp T.b_law_low .nil passE0 (pa_cons (pe_op op_mulB (pe_ix (ixtK (K := K) rfl) (pv 2) pe_int (fun _ _ => rfl)) (pe_ix (ixtK (K := K) rfl) (pv 3) pe_int (fun _ _ => rfl))) (pa_cons (pe_op op_mulB (pe_ix (ixtK (K := K) rfl) (pv 2) pe_int (fun _ _ => rfl)) (pe_ix (ixtK (K := K) rfl) (pv 3) pe_int (fun _ _ => rfl))) pa_nil))))
      (pss_cons (ps_set (i := 5) sc_law_through.nd rfl (Or.inl rfl) (pe_call G_law_times (hr.mono (by decide)) rfl T.m_law_times T.F_law_times.kp T.b_law_times .nil passE0 (pa_cons (pv 4) (pa_cons (pe_ix (ixtK (K := K) rfl) (pv 0) pe_int (fun _ _ => rfl)) pa_nil))))
      (pss_one (ps_ret (pe_lst (pa_cons (pe_call G_law_plus (hr.mono (by decide)) rfl T.m_law_plus T.F_law_plus.kp T.b_law_plus .nil passE0 (pa_cons (pe_ix (ixtK (K := K) rfl) (pv 0) pe_int (fun _ _ => rfl)) (pa_cons (pe_tup (pa_cons (pe_un un_neg (pe_ix (ixtK (K := K) rfl) (pv 5) pe_int (fun _ _ => rfl))) (pa_cons (pe_ix (ixtK (K := K) rfl) (pv 5) pe_int (fun _ _ => rfl)) pa_nil))) pa_nil))) (pa_cons (pv 4) pa_nil))))))))), _, (sv_seq (sv_asg (ev_call0 (av_cons (bv_ev (ev_ixk 1 (ev_var 1))) (av_cons (bv_ev (ev_tup (ae_cons (ev_neg (bv_ev (ev_ixk 0 (ev_ixk 1 (ev_var 0))))) (ae_cons (ev_ixk 1 (ev_ixk 1 (ev_var 0))) ae_nil)) (by decide))) av_nil))) (gv_name 2))
      (sv_seq (sv_asg (ev_call0 (av_cons (bv_ev (ev_ixk 0 (ev_var 1))) (av_cons (bv_ev (ev_tup (ae_cons (ev_neg (bv_ev (ev_ixk 0 (ev_ixk 0 (ev_var 0))))) (ae_cons (ev_ixk 1 (ev_ixk 0 (ev_var 0))) ae_nil)) (by decide))) av_nil))) (gv_name 3))
      (sv_seq (sv_asg (ev_call0 (av_cons (bv_ev (ev_op ro_i (bv_ev (ev_ixk 0 (ev_var 2))) (bv_ev (ev_ixk 1 (ev_var 3))))) (av_cons (bv_ev (ev_op ro_i (bv_ev (ev_ixk 1 (ev_var 2))) (bv_ev (ev_ixk 0 (ev_var 3))))) av_nil))) (gv_name 4))
      (sv_seq (sv_asg (ev_call0 (av_cons (bv_var 4) (av_cons (bv_ev (ev_ixk 0 (ev_var 0))) av_nil))) (gv_name 5))
      (sv_retO (ov_lst (ae_cons (ev_call0 (av_cons (bv_ev (ev_ixk 1 (ev_var 0))) (av_cons (bv_ev (ev_tup (ae_cons (ev_neg (bv_ev (ev_ixk 0 (ev_var 5)))) (ae_cons (ev_ixk 1 (ev_var 5)) ae_nil)) (by decide))) av_nil))) (ae_cons (ev_var 4) ae_nil)) (by decide))))))), ?_⟩
  rintro ds Q X ⟨m, o, rfl, d1, d2, d3, d4, lt, k⟩
  have p1 := Fm.den_pos m.1
  have p3 := Fm.den_pos m.2.1
  walk_at "s"
  refine sum_fr (b := -m.2.1) d4 d3.neg (by decide) ?_
  have dr : Dg 63 (o.2.1 + -m.2.1) := d4.add d3.neg
  generalize o.2.1 + -m.2.1 = r at dr ⊢
  walk_at "d"
  walk_at "s"
  refine sum_fr (b := -m.1) d2 d1.neg (by decide) ?_
  have dw : Dg 33 (o.1 + -m.1) := d2.add d1.neg
  have w0 : 0 < o.1 + -m.1 := by grind
  generalize o.1 + -m.1 = v at dw w0 ⊢
  have v0 : 0 < v.num := (num_pos_iff v).mpr w0
  have pr' := Fm.den_pos r
  have pv := Fm.den_pos v
  walk_at "d"
  walk_at "s"
  have or := dgOk dr (by decide)
  have ov := dgOk dw (by decide)
  have b1 : (r.num * (v.den : Int)).natAbs ≤ 10 ^ 96 := by rw [Int.natAbs_mul]; exact mul_ten (b := 63) (c := 33) dr.n (by have := dw.d; omega)
  have b2 : ((r.den : Int) * v.num).natAbs ≤ 10 ^ 96 := by rw [Int.natAbs_mul]; exact mul_ten (b := 63) (c := 33) (by have := dr.d; omega) dw.n
  have b0 : 0 < (r.den : Int) * v.num := Int.mul_pos (by omega) v0
  refine ⟨mulOk or.n ov.d, mulOk or.d ov.n, _, _, rfl, by omega, tenWee b2 (by decide), ?_⟩
  have dsl : Dg 96 (Rat.divInt (r.num * (v.den : Int)) ((r.den : Int) * v.num)) := Dg.of (by omega) b1 b2
  generalize Rat.divInt (r.num * (v.den : Int)) ((r.den : Int) * v.num) = t at dsl ⊢
  walk_at "d"
  walk_at "s"
  refine times_ff dsl d1 (by decide) ?_
  have dd : Dg 113 (t * m.1) := dsl.mul d1
  generalize t * m.1 = y at dd ⊢
  have py := Fm.den_pos y
  walk_at "d"
  refine sum_fr (b := -y) d3 dd.neg (by decide) ?_
  walk_at "d"
  exact k _ _ (d3.add dd.neg) dsl
end
theorem atI_m3 {ms : List Mk} {k : Int} {j : Nat} (e : k = (j : Int)) (h : j < ms.length) : atI (ms.map mk3) k = some (mk3 ms[j]) := by
  rw [atI_mk (xs := ms) mk3 (by omega) (by omega), e, Int.toNat_natCast]
  simp [h]
section
variable {P : Program} {w : World} {K : PySem.W.Frag} {mg : Str → Option Value} {base : Heap} {A : Adr}
noncomputable def wOther : DW := fun ds Q _ => ∃ (c k : Int) (ms : List Mk) (B : Nat) (l : Ln), ds = [.int c, .int k, .list (ms.map mk3), .list [fr l.1, fr l.2]] ∧ Bg 1048577 c ∧ 0 ≤ k ∧ k ≤ 100 ∧ M42 B ms ∧ Dg 130 l.1 ∧ Dg 80 l.2 ∧ ∀ a s, Dg 160 a → Dg 110 s → Q (.own [fr a, fr s])
theorem ok_law_other (T : Txt K mg A) : FnOk P w K mg base (CXE P w) 5 A.a_law_other A.d_law_other ["cell", "k", "marks", "numbers"] (spW K wOther) := by
  have G_law_number := ok_law_number (P := P) (w := w) (base := base) T
  have G_law_plus := ok_law_plus (P := P) (w := w) (base := base) T
  have G_law_times := ok_law_times (P := P) (w := w) (base := base) T
  have G_law_through := ok_law_through (P := P) (w := w) (base := base) T
  refine okW T.F_law_other sc_law_other (fun ds Q E h => ?_) (fun cdv Ar outer s H E hr => ?_)
  · obtain ⟨_, _, _, _, _, rfl, _⟩ := h; rfl
  refine ⟨_, (pss_cons (ps_set (i := 4) sc_law_other.nd rfl (Or.inr rfl) (pe_lst (pa_cons (pe_call G_law_number (hr.mono (by decide)) rfl T.m_law_number T.F_law_number.kp T.b_law_number .nil passE0 (pa_cons (pe_op op_fdivB (pv 0) pe_int) pa_nil)) (pa_cons (pe_call G_law_number (hr.mono (by decide)) rfl T.m_law_number T.F_law_number.kp T.b_law_number .nil passE0 (pa_cons (pe_op op_add (pe_op op_mod (pe_op op_mulB (pv 0) pe_int) pe_int) (pv 1)) pa_nil)) pa_nil))))
      (pss_cons (ps_if (pt_cmpR op_eq (pe_op op_mod (pv 0) pe_int) pe_int (nomark _)) (pss_cons (ps_set (i := 5) sc_law_other.nd rfl (Or.inr rfl) (pe_tup (pa_cons pe_int (pa_cons (pe_ix (ixlK (K := K) rfl) (pe_lst (pa_cons pe_int (@pa_cons _ _ _ _ _ (pe_op op_pow pe_int pe_int) pa_nil se_bin))) (pe_op op_mod (pe_op op_fdivB (pv 0) pe_int) pe_int) (fun _ _ => rfl)) pa_nil))))
      (pss_one (ps_ret (pe_lc (cap := [none, some 3, some 5, some 4]) (NC := ["j", "numbers", "share", "drawn"]) rfl ⟨rfl, rfl, by decide +kernel, by decide +kernel, ⟨⟨_, rfl, rfl, rfl, rfl, rfl⟩, ⟨⟨_, rfl, rfl, rfl, rfl, rfl⟩, ⟨⟨_, rfl, rfl, rfl, rfl, rfl⟩, trivial⟩⟩⟩, (List.forall_mem_cons.2 ⟨rfl, (List.forall_mem_cons.2 ⟨rfl, (List.forall_mem_cons.2 ⟨rfl, (fun _ h => nomatch h)⟩)⟩)⟩), rfl⟩ (pi_range1 rfl T.n_range (pa_cons pe_int pa_nil)) (fun _ _ _ _ => (pg_name (i := 0) (show List.Nodup (["j", "numbers", "share", "drawn"] : List Str) by decide) rfl (Or.inl rfl))) (fun _ _ _ _ => pts_nil) (fun _ _ _ _ => (pe_call G_law_plus (hr.mono (by decide)) rfl T.m_law_plus T.F_law_plus.kp T.b_law_plus .nil passE0 (pa_cons (pe_ix (ixlK (K := K) rfl) (pv 1) (pv 0) (fun _ _ => rfl)) (pa_cons (pe_call G_law_times (hr.mono (by decide)) rfl T.m_law_times T.F_law_times.kp T.b_law_times .nil passE0 (pa_cons (pv 2) (pa_cons (pe_ix (ixlK (K := K) rfl) (pv 3) (pv 0) (fun _ _ => rfl)) pa_nil))) pa_nil)))))))) pss_nil)
      (pss_cons (ps_if (PW.pt (pw_and (pt_cmpR op_eq (pe_op op_mod (pv 0) pe_int) pe_int (nomark _)) (pw_and1 (pt_cmpR op_gt (pe_callB (lenK (K := K) rfl) rfl T.n_len PySem.boot_len (pa_cons (pv 2) pa_nil)) pe_int (nomark _))))) (pss_cons (ps_set (i := 6) sc_law_other.nd rfl (Or.inl rfl) (pe_op op_mod (pe_op op_fdivB (pv 0) pe_int) (pe_op op_sub (pe_callB (lenK (K := K) rfl) rfl T.n_len PySem.boot_len (pa_cons (pv 2) pa_nil)) pe_int)))
      (pss_one (ps_ret (pe_call G_law_through (hr.mono (by decide)) rfl T.m_law_through T.F_law_through.kp T.b_law_through .nil passE0 (pa_cons (pe_ix (ixlK (K := K) rfl) (pv 2) (pv 6) (fun _ _ => rfl)) (pa_cons (pe_ix (ixlK (K := K) rfl) (pv 2) (pe_op op_add (pe_op op_add (pv 6) pe_int) (pe_op op_mod (pe_op op_fdivB (pv 0) pe_int) (pe_op op_sub (pe_op op_sub (pe_callB (lenK (K := K) rfl) rfl T.n_len PySem.boot_len (pa_cons (pv 2) pa_nil)) pe_int) (pv 6)))) (fun _ _ => rfl)) pa_nil)))))) pss_nil)
      (pss_one (ps_ret (pv 4)))))), _, (sv_seq (sv_setO 4 (ov_lst (ae_cons (ev_call0 (av_cons (bv_ev (ev_dvk (k := 3) (cdiv (by decide +kernel)) (bv_var 0) ev_int)) av_nil)) (ae_cons (ev_call0 (av_cons (bv_ev (ev_op ro_i0 (bv_ev (ev_mdk (k := 2147483579) (by decide) (bv_ev (ev_op ro_i (bv_var 0) (bv_ev ev_int))) ev_int)) (bv_var 1))) av_nil)) ae_nil)) (by decide)))
      (sv_seq (sv_if (tv_test (bv_ev (ev_op ro_eq (bv_ev (ev_mdk (k := 3) (by decide) (bv_var 0) ev_int)) (bv_ev ev_int)))) (sv_seq (sv_asg (ev_tup (ae_cons ev_int (ae_cons (ev_ixl (lv_ov (ov_lst (ae_cons ev_int (ae_cons (ev_k (v := 1000000000000) (ev_op ro_i (bv_ev ev_int) (bv_ev ev_int)) (fun ex δ Q h => ⟨cpow (by decide +kernel), Eq.mpr (congrArg (fun z => Q (.int z)) (by decide +kernel : ((10 ^ Int.toNat 12) : Int) = 1000000000000)) h⟩)) ae_nil)) (by decide))) (bv_ev (ev_mdk (k := 2) (by decide) (bv_ev (ev_dvk (k := 3) (cdiv (by decide +kernel)) (bv_var 0) ev_int)) ev_int))) ae_nil)) (by decide)) (gv_name 5))
      (sv_retO (ov_lc (IvS.e (is_rng1 (av_cons (bv_ev ev_int) av_nil))) (gv_name 0) tv_yes (ev_call0 (av_cons (bv_ev (ev_ixl (lv_var 1) (bv_var 0))) (av_cons (bv_ev (ev_call0 (av_cons (bv_var 2) (av_cons (bv_ev (ev_ixl (lv_var 3) (bv_var 0))) av_nil)))) av_nil))) (by decide) (by decide)))) sv_next)
      (sv_seq (sv_if (tv_and (tv_test (bv_ev (ev_op ro_eq (bv_ev (ev_mdk (k := 3) (by decide) (bv_var 0) ev_int)) (bv_ev ev_int)))) (tv_test (bv_ev (ev_op ro_b0 (bv_ev (ev_cb rb_len (av_cons (bv_var 2) av_nil))) (bv_ev ev_int))))) (sv_seq (sv_asg (ev_op ro_i (bv_ev (ev_dvk (k := 3) (cdiv (by decide +kernel)) (bv_var 0) ev_int)) (bv_ev (ev_op ro_i0 (bv_ev (ev_cb rb_len (av_cons (bv_var 2) av_nil))) (bv_ev ev_int)))) (gv_name 6))
      (sv_retO (ov_call0 (av_cons (bv_ev (ev_ixl (lv_var 2) (bv_var 6))) (av_cons (bv_ev (ev_ixl (lv_var 2) (bv_ev (ev_op ro_i0 (bv_ev (ev_op ro_i0 (bv_var 6) (bv_ev ev_int))) (bv_ev (ev_op ro_i (bv_ev (ev_dvk (k := 30) (cdiv (by decide +kernel)) (bv_var 0) ev_int)) (bv_ev (ev_op ro_i0 (bv_ev (ev_op ro_i0 (bv_ev (ev_cb rb_len (av_cons (bv_var 2) av_nil))) (bv_ev ev_int))) (bv_var 6))))))))) av_nil))))) sv_next)
      (sv_retV 4)))), ?_⟩
  rintro ds Q X ⟨c, kk, ms, B, l, rfl, bg, k0, k1, Z, la, ls, k⟩
  have n16 := Z.n16
  walk_at "s"
  refine ⟨_, rfl, bg.div 3 (by decide), fun q0 d0 => ?_⟩
  walk_at "d"
  refine ⟨mulOkBig (Nat.le_trans bg.bits (by decide)) (wee (by decide +kernel)), ?_⟩
  have b2 : Bg 1048577 (c * 48397 % 2147483579 + kk) := Bg.small (by omega) (by decide)
  generalize c * 48397 % 2147483579 + kk = c2 at b2 ⊢
  refine ⟨c2, rfl, b2, fun q1 d1 => ?_⟩
  walk_at "d"
  walk_at "s"
  refine ite2 (fun z => ?_) (fun z => ?_)
  · obtain ⟨sh, ash, s0, s1⟩ : ∃ sh : Int, atI [PyData.int 10, PyData.int 1000000000000] (c / 3 % 2) = some (.int sh) ∧ 0 < sh ∧ sh ≤ 1000000000000 := by
      have h2 : c / 3 % 2 = 0 ∨ c / 3 % 2 = 1 := by omega
      rcases h2 with e | e <;> rw [e]
      · exact ⟨10, rfl, by decide, by decide⟩
      · exact ⟨1000000000000, rfl, by decide, by decide⟩
    walk_at "s"
    refine ⟨_, ash, ?_⟩
    clear ash
    refine lc_map (fun k : Nat => PyData.int (k : Int)) fr (fun k : Nat => [if k = 0 then l.1 + Rat.divInt 1 sh * q0 else l.2 + Rat.divInt 1 sh * q1]) (List.range 2) (by decide) (fun Q h => by
        walk_at "d"
        exact ⟨by decide, h⟩) (fun q hq N acc hN => ?_) ?_
    · have hq' : q = 0 ∨ q = 1 := by have := List.mem_range.mp hq; omega
      have dsh : ∀ {x : Rat}, Dg 13 x → Dg 27 (Rat.divInt 1 sh * x) := fun {x} h => (Dg.of (n := 13) (t := 1) (b := sh) (by omega) (by decide) (by omega)).mul h
      rcases hq' with rfl | rfl
      · rw [if_pos rfl] at hN
        walk_at "d"
        refine ⟨_, rfl, _, rfl, ?_⟩
        have p0 := Fm.den_pos q0
        refine ⟨1, sh, q0.num, (q0.den : Int), 13, 13, rfl, s0, by omega, by decide, by omega, d0.n, by have := d0.d; omega, by decide, ?_⟩
        rw [Rat.num_divInt_den]
        walk_at "d"
        refine sum_fr la (dsh d0) (by decide) ?_
        walk_at "d"
        exact hN
      · rw [if_neg (by decide)] at hN
        walk_at "d"
        refine ⟨_, rfl, _, rfl, ?_⟩
        have p0 := Fm.den_pos q1
        refine ⟨1, sh, q1.num, (q1.den : Int), 13, 13, rfl, s0, by omega, by decide, by omega, d1.n, by have := d1.d; omega, by decide, ?_⟩
        rw [Rat.num_divInt_den]
        walk_at "d"
        refine sum_fr ls (dsh d1) (by decide) ?_
        walk_at "d"
        exact hN
    have dsh : ∀ {x : Rat}, Dg 13 x → Dg 27 (Rat.divInt 1 sh * x) := fun {x} h => (Dg.of (n := 13) (t := 1) (b := sh) (by omega) (by decide) (by omega)).mul h
    exact k _ _ ((la.add (dsh d0)).mono (by decide)) ((ls.add (dsh d1)).mono (by decide))
  · walk_at "s"
    refine ite2 (fun z2 => ite2 (fun z3 => ?_) (fun z3 => ?_)) (fun z2 => ?_)
    · walk_at "s"
      refine ⟨by omega, ?_⟩
      have j0 := Int.emod_nonneg (c / 3) (show (ms.length : Int) - 1 ≠ 0 by omega)
      have j1 := Int.emod_lt_of_pos (c / 3) (show (0 : Int) < (ms.length : Int) - 1 by omega)
      generalize c / 3 % ((ms.length : Int) - 1) = jz at j0 j1 ⊢
      obtain ⟨j, hj⟩ : ∃ j : Nat, jz = (j : Int) := ⟨jz.toNat, by omega⟩
      walk_at "d"
      refine ⟨_, atI_m3 hj (by omega), by omega, ?_⟩
      have i0 := Int.emod_nonneg (c / 30) (show (ms.length : Int) - 1 - jz ≠ 0 by omega)
      have i1 := Int.emod_lt_of_pos (c / 30) (show (0 : Int) < (ms.length : Int) - 1 - jz by omega)
      generalize c / 30 % ((ms.length : Int) - 1 - jz) = iz at i0 i1 ⊢
      obtain ⟨i, hi⟩ : ∃ i : Nat, jz + 1 + iz = (i : Int) := ⟨(jz + 1 + iz).toNat, by omega⟩
      have il : i < ms.length := by omega
      have jl : j < ms.length := by omega
      refine ⟨_, atI_m3 hi il, ?_⟩
      refine ⟨ms[j], ms[i], rfl, Z.xd (List.getElem_mem jl), Z.xd (List.getElem_mem il), Z.yd (List.getElem_mem jl), Z.yd (List.getElem_mem il), List.pairwise_iff_getElem.mp Z.up j i jl il (by omega), fun a t da dt => ?_⟩
      walk_at "d"
      exact k a t (da.mono (by decide)) (dt.mono (by decide))
    · walk_at "d"
      exact k q0 q1 (d0.mono (by decide)) (d1.mono (by decide))
    · walk_at "d"
      exact k q0 q1 (d0.mono (by decide)) (d1.mono (by decide))
theorem ok_law (T : Txt K mg A) : FnOk P w K mg base (CXE P w) 8 A.a_law A.d_law ["script"] (spLaw K) := by
  have G_law_cell := ok_law_cell (P := P) (w := w) (base := base) T
  have G_law_marks := ok_law_marks (P := P) (w := w) (base := base) T
  have G_line_sum := dat2 (ok_line_sum (P := P) (w := w) (base := base) T)
  have G_level_sum := dat2 (ok_level_sum (P := P) (w := w) (base := base) T)
  have G_law_sum := ok_law_sum (P := P) (w := w) (base := base) T
  have G_law_less := ok_law_less (P := P) (w := w) (base := base) T
  have G_law_other := ok_law_other (P := P) (w := w) (base := base) T
  refine law_of (okW T.F_law sc_law (fun ds Q E h => ?_) (fun cdv Ar outer s H E hr => ?_))
  · obtain ⟨a, rfl, _⟩ := h; rfl
  refine ⟨_, (pss_cons (ps_set (i := 1) sc_law.nd rfl (Or.inl rfl) (pe_call G_law_marks (hr.mono (by decide)) rfl T.m_law_marks T.F_law_marks.kp T.b_law_marks .nil passE0 (pa_cons (pv 0) (pa_cons pe_int pa_nil))))
      (pss_cons (ps_set (i := 2) sc_law.nd rfl (Or.inl rfl) (pe_ix (ixtK (K := K) rfl) (pe_call G_line_sum (hr.mono (by decide)) rfl T.m_line_sum T.F_line_sum.kp T.b_line_sum .nil passE0 (pa_cons (pe_callTy (listK (K := K) rfl) rfl T.n_list bt_list (pa_cons (pv 1) pa_nil)) pa_nil)) pe_int (fun _ _ => rfl)))
      (pss_cons (ps_set (i := 3) sc_law.nd rfl (Or.inl rfl) (pe_ix (ixlK (K := K) rfl) (pe_ix (ixtK (K := K) rfl) (pe_call G_level_sum (hr.mono (by decide)) rfl T.m_level_sum T.F_level_sum.kp T.b_level_sum .nil passE0 (pa_cons (pe_callTy (listK (K := K) rfl) rfl T.n_list bt_list (pa_cons (pv 1) pa_nil)) pa_nil)) pe_int (fun _ _ => rfl)) pe_int (fun _ _ => rfl)))
      (pss_cons (ps_set (i := 4) sc_law.nd rfl (Or.inl rfl) (pe_call G_law_sum (hr.mono (by decide)) rfl T.m_law_sum T.F_law_sum.kp T.b_law_sum .nil passE0 (pa_cons (pv 1) (pa_cons (pv 2) pa_nil))))
      (pss_cons (ps_set (i := 5) sc_law.nd rfl (Or.inl rfl) (pe_call G_law_sum (hr.mono (by decide)) rfl T.m_law_sum T.F_law_sum.kp T.b_law_sum .nil passE0 (pa_cons (pv 1) (pa_cons (pe_lst (pa_cons (pv 3) (pa_cons (pe_tup (pa_cons pe_int (pa_cons pe_int pa_nil))) pa_nil))) pa_nil))))
      (pss_cons (ps_if (pt_val (pe_call G_law_less (hr.mono (by decide)) rfl T.m_law_less T.F_law_less.kp T.b_law_less .nil passE0 (pa_cons (pv 5) (pa_cons (pv 4) pa_nil)))) (pss_one (ps_ret pe_bl)) pss_nil)
      (pss_cons (ps_for PassesOwn.leaving rfl (pi_range2 rfl T.n_range (pa_cons pe_int (pa_cons (pe_callB (call_max2 rfl) rfl T.n_max bt_max (pa_cons pe_int (pa_cons (pe_callB (call_min2 rfl) rfl T.n_min bt_min (pa_cons (pe_callB (lenK (K := K) rfl) rfl T.n_len PySem.boot_len (pa_cons (pv 0) pa_nil)) (pa_cons pe_int pa_nil))) pa_nil))) pa_nil))) (pg_name (i := 6) sc_law.nd rfl (Or.inl rfl))
        (pss_cons (ps_set (i := 7) sc_law.nd rfl (Or.inl rfl) (pe_call G_law_other (hr.mono (by decide)) rfl T.m_law_other T.F_law_other.kp T.b_law_other .nil passE0 (pa_cons (pe_call G_law_cell (hr.mono (by decide)) rfl T.m_law_cell T.F_law_cell.kp T.b_law_cell .nil passE0 (pa_cons (pv 0) (pa_cons (pv 6) pa_nil))) (pa_cons (pv 6) (pa_cons (pv 1) (pa_cons (pv 2) pa_nil))))))
      (pss_cons (ps_if (pt_val (pe_call G_law_less (hr.mono (by decide)) rfl T.m_law_less T.F_law_less.kp T.b_law_less .nil passE0 (pa_cons (pe_call G_law_sum (hr.mono (by decide)) rfl T.m_law_sum T.F_law_sum.kp T.b_law_sum .nil passE0 (pa_cons (pv 1) (pa_cons (pv 7) pa_nil))) (pa_cons (pv 4) pa_nil)))) (pss_one (ps_ret pe_bl)) pss_nil)
      (pss_one (ps_if (pt_val (pe_call G_law_less (hr.mono (by decide)) rfl T.m_law_less T.F_law_less.kp T.b_law_less .nil passE0 (pa_cons (pe_call G_law_sum (hr.mono (by decide)) rfl T.m_law_sum T.F_law_sum.kp T.b_law_sum .nil passE0 (pa_cons (pv 1) (pa_cons (pe_lst (pa_cons (pe_ix (ixlK (K := K) rfl) (pv 7) pe_int (fun _ _ => rfl)) (pa_cons (pe_tup (pa_cons pe_int (pa_cons pe_int pa_nil))) pa_nil))) pa_nil))) (pa_cons (pv 5) pa_nil)))) (pss_one (ps_ret pe_bl)) pss_nil)))))
      (pss_one (ps_ret pe_bl))))))))), _, (sv_seq (sv_setO 1 (ov_call0 (av_cons (bv_var 0) (av_cons (bv_ev ev_int) av_nil))))
      (sv_seq (sv_frz 1 (sv_asgNT0 0 (av_cons (bv_ev (ev_ov (ov_list (lv_var 1)))) av_nil) (gv_name 2)))
      (sv_seq (sv_asgNTI0 0 (av_cons (bv_ev (ev_ov (ov_list (lv_var 1)))) av_nil) (bv_ev ev_int) (gv_name 3))
      (sv_seq (sv_asg (ev_call0 (av_cons (bv_var 1) (av_cons (bv_var 2) av_nil))) (gv_name 4))
      (sv_seq (sv_asg (ev_call0 (av_cons (bv_var 1) (av_cons (bv_ev (ev_ov (ov_lst (ae_cons (ev_var 3) (ae_cons (ev_tup (ae_cons ev_int (ae_cons ev_int ae_nil)) (by decide)) ae_nil)) (by decide)))) av_nil))) (gv_name 5))
      (sv_seq (sv_if (tv_b (bv_ev (ev_call0 (av_cons (bv_var 5) (av_cons (bv_var 4) av_nil))))) (sv_ret (bv_ev ev_bl)) sv_next)
      (sv_seq (sv_for (is_rng2 (av_cons (bv_ev ev_int) (av_cons (bv_ev (ev_cb rb_max (av_cons (bv_ev ev_int) (av_cons (bv_ev (ev_cb rb_min (av_cons (bv_ev (ev_cb rb_len (av_cons (bv_var 0) av_nil))) (av_cons (bv_ev ev_int) av_nil)))) av_nil)))) av_nil))) (gv_name 6)
        (sv_seq (sv_setO 7 (ov_call0 (av_cons (bv_ev (ev_call0 (av_cons (bv_var 0) (av_cons (bv_var 6) av_nil)))) (av_cons (bv_var 6) (av_cons (bv_var 1) (av_cons (bv_var 2) av_nil))))))
      (sv_seq (sv_if (tv_b (bv_ev (ev_call0 (av_cons (bv_ev (ev_call0 (av_cons (bv_var 1) (av_cons (bv_var 7) av_nil)))) (av_cons (bv_var 4) av_nil))))) (sv_ret (bv_ev ev_bl)) sv_next)
      (sv_if (tv_b (bv_ev (ev_call0 (av_cons (bv_ev (ev_call0 (av_cons (bv_var 1) (av_cons (bv_ev (ev_ov (ov_lst (ae_cons (ev_ixl (lv_var 7) (bv_ev ev_int)) (ae_cons (ev_tup (ae_cons ev_int (ae_cons ev_int ae_nil)) (by decide)) ae_nil)) (by decide)))) av_nil)))) (av_cons (bv_var 5) av_nil))))) (sv_ret (bv_ev ev_bl)) sv_next))))
      (sv_ret (bv_ev ev_bl))))))))), ?_⟩
  rintro ds Q X ⟨ns, rfl, hlen, hbits, k⟩
  walk_at "s"
  refine ⟨ns, 6, rfl, by decide, by decide, hlen, hbits, fun ms B Z hle => ?_⟩
  have LZ := Z.sz
  have ml : ms.length ≤ 6 := by omega
  walk_at "d"
  refine ⟨mks_flat _, ?_⟩
  obtain ⟨bs, ba⟩ := Z.best
  have bl := best_opt LZ
  obtain ⟨l, hl⟩ : ∃ l, bestL ms = l := ⟨_, rfl⟩
  have ll := lvl_least LZ.ne LZ.w1
  have lm := lvl_mem LZ.ne LZ.w1
  obtain ⟨x, hx⟩ : ∃ x, lvl ms = x := ⟨_, rfl⟩
  rw [hl] at bs ba bl
  rw [hx] at ll lm
  have dx : Dg 31 x := by
    obtain ⟨m, hm, e⟩ := lm
    rw [← e]; exact Z.yd hm
  have mlE : 9 + (160 + 110 + 16 + 31) + 3 + (160 + 110 + 16 + 31 + 1) * ms.length ≤ 2400 := by omega
  have sumC : ∀ {l' : Ln} {Qs : Sl → Prop} {Xs : DX}, Dg 160 l'.1 → Dg 110 l'.2 → (∀ t b : Int, 0 < b → Wee b → Wee t → Rat.divInt t b = FS ms l' → Qs (.dat (.tuple [.int t, .int b]))) → wLawSum [.list (ms.map mk3), .list [fr l'.1, fr l'.2]] Qs Xs := fun {l' Qs Xs} h1 h2 q =>
    ⟨ms, l', 160, 110, 16, 31, 9, rfl, fun m hm => ⟨Z.xd hm, Z.yd hm, by have := Z.w m hm; omega⟩, h1, h2, mlE, q⟩
  walk_at "s"
  refine ⟨ms, _, rfl, LZ, ?_⟩
  rw [hl]
  walk_at "d"
  walk_at "s"
  refine ⟨ms, _, rfl, LZ, ?_⟩
  rw [hx]
  walk_at "d"
  refine ⟨fr x, rfl, ?_⟩
  walk_at "s"
  refine sumC (ba.mono (by decide)) (bs.mono (by decide)) fun t b b0 wb wt et => ?_
  walk_at "d"
  walk_at "s"
  refine sumC (l' := (x, 0)) (dx.mono (by decide)) Dg.zero fun u c c0 wc wu eu => ?_
  walk_at "d"
  walk_at "s"
  refine ⟨u, c, t, b, rfl, wu, wc, wt, wb, ?_⟩
  have g1 : ¬ u * b < t * c := fun z => by
    have := (div_lt_iff c0 b0).mp z
    rw [eu, et] at this
    have := bl x 0
    grind
  rw [decide_eq_false g1]
  walk_at "d"
  obtain ⟨hi, hhi, h0, h1⟩ : ∃ hi : Int, (if (if 60 < (ns.length : Int) then 60 else (ns.length : Int)) > 25 then (if 60 < (ns.length : Int) then 60 else (ns.length : Int)) else 25) = hi ∧ 24 ≤ hi ∧ hi ≤ 60 := ⟨_, rfl, by (repeat' split) <;> omega, by (repeat' split) <;> omega⟩
  refine seq_mk (for_rng (lo := 24) (st := 1) (n := (hi - 24).toNat) (fun Q h => by
      walk_at "d"
      rw [hhi]
      exact ⟨by omega, h⟩)
    (fun i δ => ∃ (t1 t2 : Option Sl), δ = [some (.dat (.list (ns.map .int))), some (.dat (.list (ms.map mk3))), some (.dat (.list [fr l.1, fr l.2])), some (.dat (fr x)), some (.dat (.tuple [.int t, .int b])), some (.dat (.tuple [.int u, .int c])), t1, t2])
    ⟨_, _, rfl⟩ ?_ ?_)
  · rintro i δ hi2 ⟨t1, t2, rfl⟩
    obtain ⟨kk, hkk, kk0, kk1⟩ : ∃ kk : Int, (24 : Int) + (i : Int) * 1 = kk ∧ 0 ≤ kk ∧ kk ≤ 100 := ⟨_, rfl, by omega, by omega⟩
    rw [hkk]
    clear hkk
    have bg := cellF_bg hbits kk0 (show kk ≤ 1000 by omega)
    walk_at "s"
    refine ⟨ns, kk, rfl, by omega, by omega, ?_⟩
    walk_at "d"
    generalize cellF ns kk = cl at bg ⊢
    refine ⟨cl, kk, ms, B, l, rfl, bg, kk0, kk1, Z, ba, bs, fun a o da do' => ?_⟩
    walk_at "d"
    walk_at "s"
    refine sumC (l' := (a, o)) da do' fun t' b' b0' wb' wt' et' => ?_
    walk_at "d"
    refine ⟨t', b', t, b, rfl, wt', wb', wt, wb, ?_⟩
    have g2 : ¬ t' * b < t * b' := fun z => by
      have := (div_lt_iff b0' b0).mp z
      rw [et', et] at this
      have := bl a o
      grind
    rw [decide_eq_false g2]
    walk_at "d"
    refine ⟨_, rfl, ?_⟩
    refine sumC (l' := (a, 0)) da Dg.zero fun u' c' c0' wc' wu' eu' => ?_
    walk_at "d"
    refine ⟨u', c', u, c, rfl, wu', wc', wu, wc, ?_⟩
    have g3 : ¬ u' * c < u * c' := fun z => by
      have := (div_lt_iff c0' c0).mp z
      rw [eu', eu] at this
      have := ll a
      grind
    rw [decide_eq_false g3]
    walk_at "d"
    exact ⟨some _, some _, rfl⟩
  rintro δ ⟨t1, t2, rfl⟩
  walk_at "d"
  exact k
end
@[elab_as_elim] theorem el1 {P : List Value → Prop} : ∀ us : List Value, us.length = 1 → (∀ a0 : Value, P [a0]) → P us
  | [], h, _ => by cases h
  | [a0], _, h => h a0
  | _ :: _ :: _, h, _ => by simp at h
@[elab_as_elim] theorem el2 {P : List Value → Prop} : ∀ us : List Value, us.length = 2 → (∀ a0 a1 : Value, P [a0, a1]) → P us
  | [], h, _ => by cases h
  | [_], h, _ => by cases h
  | [a0, a1], _, h => h a0 a1
  | _ :: _ :: _ :: _, h, _ => by simp at h
@[elab_as_elim] theorem el3 {P : List Value → Prop} : ∀ us : List Value, us.length = 3 → (∀ a0 a1 a2 : Value, P [a0, a1, a2]) → P us
  | [], h, _ => by cases h
  | [_], h, _ => by cases h
  | [_, _], h, _ => by cases h
  | [a0, a1, a2], _, h => h a0 a1 a2
  | _ :: _ :: _ :: _ :: _, h, _ => by simp at h
@[elab_as_elim] theorem el4 {P : List Value → Prop} : ∀ us : List Value, us.length = 4 → (∀ a0 a1 a2 a3 : Value, P [a0, a1, a2, a3]) → P us
  | [], h, _ => by cases h
  | [_], h, _ => by cases h
  | [_, _], h, _ => by cases h
  | [_, _, _], h, _ => by cases h
  | [a0, a1, a2, a3], _, h => h a0 a1 a2 a3
  | _ :: _ :: _ :: _ :: _ :: _, h, _ => by simp at h
theorem all_mk {l : PySem.W.OpenLaw} {w : World} {K : PySem.W.Frag} {h : Heap} {mg : Str → Option Value} {fa f_common_divisor f_fraction f_plus f_minus f_product f_quotient f_is_less f_size_of f_total_of f_greatest_of f_least_of f_height_at f_row_of f_misses_of f_check_kind f_weighed_misses f_measured f_least_level f_middle_of f_in_order f_level_sum f_line_sum f_line_at f_line_pulls f_turn_of f_early_pulls f_law_cell f_law_divisor f_law_low f_law_plus f_law_times f_law_height f_law_marks f_law_sum f_law_less f_law_number f_law_through f_law_other f_law x_NoNumber x_NoKind g_KINDS g_NOUGHT : Addr} (X : K.In h) (G : h.Ns mainGlobals mg) (hfa : mg "law" = some (.ref fa))
    {od0 an0 : Option Addr} {sl0 : Array (Option Value)} {oc0 kV0 dc0 pm0 cd0 ct0 : Value}
    {od1 an1 : Option Addr} {sl1 : Array (Option Value)} {oc1 kV1 dc1 pm1 cd1 ct1 : Value}
    {od2 an2 : Option Addr} {sl2 : Array (Option Value)} {oc2 kV2 dc2 pm2 cd2 ct2 : Value}
    {od3 an3 : Option Addr} {sl3 : Array (Option Value)} {oc3 kV3 dc3 pm3 cd3 ct3 : Value}
    {od4 an4 : Option Addr} {sl4 : Array (Option Value)} {oc4 kV4 dc4 pm4 cd4 ct4 : Value}
    {od5 an5 : Option Addr} {sl5 : Array (Option Value)} {oc5 kV5 dc5 pm5 cd5 ct5 : Value}
    {od6 an6 : Option Addr} {sl6 : Array (Option Value)} {oc6 kV6 dc6 pm6 cd6 ct6 : Value}
    {od7 an7 : Option Addr} {sl7 : Array (Option Value)} {oc7 kV7 dc7 pm7 cd7 ct7 : Value}
    {od8 an8 : Option Addr} {sl8 : Array (Option Value)} {oc8 kV8 dc8 pm8 cd8 ct8 : Value}
    {od9 an9 : Option Addr} {sl9 : Array (Option Value)} {oc9 kV9 dc9 pm9 cd9 ct9 : Value}
    {od10 an10 : Option Addr} {sl10 : Array (Option Value)} {oc10 kV10 dc10 pm10 cd10 ct10 : Value}
    {od11 an11 : Option Addr} {sl11 : Array (Option Value)} {oc11 kV11 dc11 pm11 cd11 ct11 : Value}
    {od12 an12 : Option Addr} {sl12 : Array (Option Value)} {oc12 kV12 dc12 pm12 cd12 ct12 : Value}
    {od13 an13 : Option Addr} {sl13 : Array (Option Value)} {oc13 kV13 dc13 pm13 cd13 ct13 : Value}
    {od14 an14 : Option Addr} {sl14 : Array (Option Value)} {oc14 kV14 dc14 pm14 cd14 ct14 : Value}
    {od15 an15 : Option Addr} {sl15 : Array (Option Value)} {oc15 kV15 dc15 pm15 cd15 ct15 : Value}
    {od16 an16 : Option Addr} {sl16 : Array (Option Value)} {oc16 kV16 dc16 pm16 cd16 ct16 : Value}
    {od17 an17 : Option Addr} {sl17 : Array (Option Value)} {oc17 kV17 dc17 pm17 cd17 ct17 : Value}
    {od18 an18 : Option Addr} {sl18 : Array (Option Value)} {oc18 kV18 dc18 pm18 cd18 ct18 : Value}
    {od19 an19 : Option Addr} {sl19 : Array (Option Value)} {oc19 kV19 dc19 pm19 cd19 ct19 : Value}
    {od20 an20 : Option Addr} {sl20 : Array (Option Value)} {oc20 kV20 dc20 pm20 cd20 ct20 : Value}
    {od21 an21 : Option Addr} {sl21 : Array (Option Value)} {oc21 kV21 dc21 pm21 cd21 ct21 : Value}
    {od22 an22 : Option Addr} {sl22 : Array (Option Value)} {oc22 kV22 dc22 pm22 cd22 ct22 : Value}
    {od23 an23 : Option Addr} {sl23 : Array (Option Value)} {oc23 kV23 dc23 pm23 cd23 ct23 : Value}
    {od24 an24 : Option Addr} {sl24 : Array (Option Value)} {oc24 kV24 dc24 pm24 cd24 ct24 : Value}
    {od25 an25 : Option Addr} {sl25 : Array (Option Value)} {oc25 kV25 dc25 pm25 cd25 ct25 : Value}
    {od26 an26 : Option Addr} {sl26 : Array (Option Value)} {oc26 kV26 dc26 pm26 cd26 ct26 : Value}
    {od27 an27 : Option Addr} {sl27 : Array (Option Value)} {oc27 kV27 dc27 pm27 cd27 ct27 : Value}
    {od28 an28 : Option Addr} {sl28 : Array (Option Value)} {oc28 kV28 dc28 pm28 cd28 ct28 : Value}
    {od29 an29 : Option Addr} {sl29 : Array (Option Value)} {oc29 kV29 dc29 pm29 cd29 ct29 : Value}
    {od30 an30 : Option Addr} {sl30 : Array (Option Value)} {oc30 kV30 dc30 pm30 cd30 ct30 : Value}
    {od31 an31 : Option Addr} {sl31 : Array (Option Value)} {oc31 kV31 dc31 pm31 cd31 ct31 : Value}
    {od32 an32 : Option Addr} {sl32 : Array (Option Value)} {oc32 kV32 dc32 pm32 cd32 ct32 : Value}
    {od33 an33 : Option Addr} {sl33 : Array (Option Value)} {oc33 kV33 dc33 pm33 cd33 ct33 : Value}
    {od34 an34 : Option Addr} {sl34 : Array (Option Value)} {oc34 kV34 dc34 pm34 cd34 ct34 : Value}
    {od35 an35 : Option Addr} {sl35 : Array (Option Value)} {oc35 kV35 dc35 pm35 cd35 ct35 : Value}
    {od36 an36 : Option Addr} {sl36 : Array (Option Value)} {oc36 kV36 dc36 pm36 cd36 ct36 : Value}
    {od37 an37 : Option Addr} {sl37 : Array (Option Value)} {oc37 kV37 dc37 pm37 cd37 ct37 : Value}
    {od38 an38 : Option Addr} {sl38 : Array (Option Value)} {oc38 kV38 dc38 pm38 cd38 ct38 : Value}
    (a0 : PySem.W.nsIn K mainGlobals "common_divisor" = some (some (.ref f_common_divisor))) (l0 : K.lookup f_common_divisor = some ⟨oc0, od0, .func (PySem.W.fnOf "common_divisor" "common_divisor" (defArgs s_common_divisor) (defBody s_common_divisor) (defScope s_common_divisor) .none kV0 dc0 pm0 an0 cd0 ct0), sl0⟩) (c0 : PySem.W.codeIn K cd0 "common_divisor" = true) (k0 : PySem.W.keepIn K (.ref f_common_divisor) = true)
    (a1 : PySem.W.nsIn K mainGlobals "fraction" = some (some (.ref f_fraction))) (l1 : K.lookup f_fraction = some ⟨oc1, od1, .func (PySem.W.fnOf "fraction" "fraction" (defArgs s_fraction) (defBody s_fraction) (defScope s_fraction) .none kV1 dc1 pm1 an1 cd1 ct1), sl1⟩) (c1 : PySem.W.codeIn K cd1 "fraction" = true) (k1 : PySem.W.keepIn K (.ref f_fraction) = true)
    (a2 : PySem.W.nsIn K mainGlobals "plus" = some (some (.ref f_plus))) (l2 : K.lookup f_plus = some ⟨oc2, od2, .func (PySem.W.fnOf "plus" "plus" (defArgs s_plus) (defBody s_plus) (defScope s_plus) .none kV2 dc2 pm2 an2 cd2 ct2), sl2⟩) (c2 : PySem.W.codeIn K cd2 "plus" = true) (k2 : PySem.W.keepIn K (.ref f_plus) = true)
    (a3 : PySem.W.nsIn K mainGlobals "minus" = some (some (.ref f_minus))) (l3 : K.lookup f_minus = some ⟨oc3, od3, .func (PySem.W.fnOf "minus" "minus" (defArgs s_minus) (defBody s_minus) (defScope s_minus) .none kV3 dc3 pm3 an3 cd3 ct3), sl3⟩) (c3 : PySem.W.codeIn K cd3 "minus" = true) (k3 : PySem.W.keepIn K (.ref f_minus) = true)
    (a4 : PySem.W.nsIn K mainGlobals "product" = some (some (.ref f_product))) (l4 : K.lookup f_product = some ⟨oc4, od4, .func (PySem.W.fnOf "product" "product" (defArgs s_product) (defBody s_product) (defScope s_product) .none kV4 dc4 pm4 an4 cd4 ct4), sl4⟩) (c4 : PySem.W.codeIn K cd4 "product" = true) (k4 : PySem.W.keepIn K (.ref f_product) = true)
    (a5 : PySem.W.nsIn K mainGlobals "quotient" = some (some (.ref f_quotient))) (l5 : K.lookup f_quotient = some ⟨oc5, od5, .func (PySem.W.fnOf "quotient" "quotient" (defArgs s_quotient) (defBody s_quotient) (defScope s_quotient) .none kV5 dc5 pm5 an5 cd5 ct5), sl5⟩) (c5 : PySem.W.codeIn K cd5 "quotient" = true) (k5 : PySem.W.keepIn K (.ref f_quotient) = true)
    (a6 : PySem.W.nsIn K mainGlobals "is_less" = some (some (.ref f_is_less))) (l6 : K.lookup f_is_less = some ⟨oc6, od6, .func (PySem.W.fnOf "is_less" "is_less" (defArgs s_is_less) (defBody s_is_less) (defScope s_is_less) .none kV6 dc6 pm6 an6 cd6 ct6), sl6⟩) (c6 : PySem.W.codeIn K cd6 "is_less" = true) (k6 : PySem.W.keepIn K (.ref f_is_less) = true)
    (a7 : PySem.W.nsIn K mainGlobals "size_of" = some (some (.ref f_size_of))) (l7 : K.lookup f_size_of = some ⟨oc7, od7, .func (PySem.W.fnOf "size_of" "size_of" (defArgs s_size_of) (defBody s_size_of) (defScope s_size_of) .none kV7 dc7 pm7 an7 cd7 ct7), sl7⟩) (c7 : PySem.W.codeIn K cd7 "size_of" = true) (k7 : PySem.W.keepIn K (.ref f_size_of) = true)
    (a8 : PySem.W.nsIn K mainGlobals "total_of" = some (some (.ref f_total_of))) (l8 : K.lookup f_total_of = some ⟨oc8, od8, .func (PySem.W.fnOf "total_of" "total_of" (defArgs s_total_of) (defBody s_total_of) (defScope s_total_of) .none kV8 dc8 pm8 an8 cd8 ct8), sl8⟩) (c8 : PySem.W.codeIn K cd8 "total_of" = true) (k8 : PySem.W.keepIn K (.ref f_total_of) = true)
    (a9 : PySem.W.nsIn K mainGlobals "greatest_of" = some (some (.ref f_greatest_of))) (l9 : K.lookup f_greatest_of = some ⟨oc9, od9, .func (PySem.W.fnOf "greatest_of" "greatest_of" (defArgs s_greatest_of) (defBody s_greatest_of) (defScope s_greatest_of) .none kV9 dc9 pm9 an9 cd9 ct9), sl9⟩) (c9 : PySem.W.codeIn K cd9 "greatest_of" = true) (k9 : PySem.W.keepIn K (.ref f_greatest_of) = true)
    (a10 : PySem.W.nsIn K mainGlobals "least_of" = some (some (.ref f_least_of))) (l10 : K.lookup f_least_of = some ⟨oc10, od10, .func (PySem.W.fnOf "least_of" "least_of" (defArgs s_least_of) (defBody s_least_of) (defScope s_least_of) .none kV10 dc10 pm10 an10 cd10 ct10), sl10⟩) (c10 : PySem.W.codeIn K cd10 "least_of" = true) (k10 : PySem.W.keepIn K (.ref f_least_of) = true)
    (a11 : PySem.W.nsIn K mainGlobals "height_at" = some (some (.ref f_height_at))) (l11 : K.lookup f_height_at = some ⟨oc11, od11, .func (PySem.W.fnOf "height_at" "height_at" (defArgs s_height_at) (defBody s_height_at) (defScope s_height_at) .none kV11 dc11 pm11 an11 cd11 ct11), sl11⟩) (c11 : PySem.W.codeIn K cd11 "height_at" = true) (k11 : PySem.W.keepIn K (.ref f_height_at) = true)
    (a12 : PySem.W.nsIn K mainGlobals "row_of" = some (some (.ref f_row_of))) (l12 : K.lookup f_row_of = some ⟨oc12, od12, .func (PySem.W.fnOf "row_of" "row_of" (defArgs s_row_of) (defBody s_row_of) (defScope s_row_of) .none kV12 dc12 pm12 an12 cd12 ct12), sl12⟩) (c12 : PySem.W.codeIn K cd12 "row_of" = true) (k12 : PySem.W.keepIn K (.ref f_row_of) = true)
    (a13 : PySem.W.nsIn K mainGlobals "misses_of" = some (some (.ref f_misses_of))) (l13 : K.lookup f_misses_of = some ⟨oc13, od13, .func (PySem.W.fnOf "misses_of" "misses_of" (defArgs s_misses_of) (defBody s_misses_of) (defScope s_misses_of) .none kV13 dc13 pm13 an13 cd13 ct13), sl13⟩) (c13 : PySem.W.codeIn K cd13 "misses_of" = true) (k13 : PySem.W.keepIn K (.ref f_misses_of) = true)
    (a14 : PySem.W.nsIn K mainGlobals "check_kind" = some (some (.ref f_check_kind))) (l14 : K.lookup f_check_kind = some ⟨oc14, od14, .func (PySem.W.fnOf "check_kind" "check_kind" (defArgs s_check_kind) (defBody s_check_kind) (defScope s_check_kind) .none kV14 dc14 pm14 an14 cd14 ct14), sl14⟩) (c14 : PySem.W.codeIn K cd14 "check_kind" = true) (k14 : PySem.W.keepIn K (.ref f_check_kind) = true)
    (a15 : PySem.W.nsIn K mainGlobals "weighed_misses" = some (some (.ref f_weighed_misses))) (l15 : K.lookup f_weighed_misses = some ⟨oc15, od15, .func (PySem.W.fnOf "weighed_misses" "weighed_misses" (defArgs s_weighed_misses) (defBody s_weighed_misses) (defScope s_weighed_misses) .none kV15 dc15 pm15 an15 cd15 ct15), sl15⟩) (c15 : PySem.W.codeIn K cd15 "weighed_misses" = true) (k15 : PySem.W.keepIn K (.ref f_weighed_misses) = true)
    (a16 : PySem.W.nsIn K mainGlobals "measured" = some (some (.ref f_measured))) (l16 : K.lookup f_measured = some ⟨oc16, od16, .func (PySem.W.fnOf "measured" "measured" (defArgs s_measured) (defBody s_measured) (defScope s_measured) .none kV16 dc16 pm16 an16 cd16 ct16), sl16⟩) (c16 : PySem.W.codeIn K cd16 "measured" = true) (k16 : PySem.W.keepIn K (.ref f_measured) = true)
    (a17 : PySem.W.nsIn K mainGlobals "least_level" = some (some (.ref f_least_level))) (l17 : K.lookup f_least_level = some ⟨oc17, od17, .func (PySem.W.fnOf "least_level" "least_level" (defArgs s_least_level) (defBody s_least_level) (defScope s_least_level) .none kV17 dc17 pm17 an17 cd17 ct17), sl17⟩) (c17 : PySem.W.codeIn K cd17 "least_level" = true) (k17 : PySem.W.keepIn K (.ref f_least_level) = true)
    (a18 : PySem.W.nsIn K mainGlobals "middle_of" = some (some (.ref f_middle_of))) (l18 : K.lookup f_middle_of = some ⟨oc18, od18, .func (PySem.W.fnOf "middle_of" "middle_of" (defArgs s_middle_of) (defBody s_middle_of) (defScope s_middle_of) .none kV18 dc18 pm18 an18 cd18 ct18), sl18⟩) (c18 : PySem.W.codeIn K cd18 "middle_of" = true) (k18 : PySem.W.keepIn K (.ref f_middle_of) = true)
    (a19 : PySem.W.nsIn K mainGlobals "in_order" = some (some (.ref f_in_order))) (l19 : K.lookup f_in_order = some ⟨oc19, od19, .func (PySem.W.fnOf "in_order" "in_order" (defArgs s_in_order) (defBody s_in_order) (defScope s_in_order) .none kV19 dc19 pm19 an19 cd19 ct19), sl19⟩) (c19 : PySem.W.codeIn K cd19 "in_order" = true) (k19 : PySem.W.keepIn K (.ref f_in_order) = true)
    (a20 : PySem.W.nsIn K mainGlobals "level_sum" = some (some (.ref f_level_sum))) (l20 : K.lookup f_level_sum = some ⟨oc20, od20, .func (PySem.W.fnOf "level_sum" "level_sum" (defArgs s_level_sum) (defBody s_level_sum) (defScope s_level_sum) .none kV20 dc20 pm20 an20 cd20 ct20), sl20⟩) (c20 : PySem.W.codeIn K cd20 "level_sum" = true) (k20 : PySem.W.keepIn K (.ref f_level_sum) = true)
    (a21 : PySem.W.nsIn K mainGlobals "line_sum" = some (some (.ref f_line_sum))) (l21 : K.lookup f_line_sum = some ⟨oc21, od21, .func (PySem.W.fnOf "line_sum" "line_sum" (defArgs s_line_sum) (defBody s_line_sum) (defScope s_line_sum) .none kV21 dc21 pm21 an21 cd21 ct21), sl21⟩) (c21 : PySem.W.codeIn K cd21 "line_sum" = true) (k21 : PySem.W.keepIn K (.ref f_line_sum) = true)
    (a22 : PySem.W.nsIn K mainGlobals "line_at" = some (some (.ref f_line_at))) (l22 : K.lookup f_line_at = some ⟨oc22, od22, .func (PySem.W.fnOf "line_at" "line_at" (defArgs s_line_at) (defBody s_line_at) (defScope s_line_at) .none kV22 dc22 pm22 an22 cd22 ct22), sl22⟩) (c22 : PySem.W.codeIn K cd22 "line_at" = true) (k22 : PySem.W.keepIn K (.ref f_line_at) = true)
    (a23 : PySem.W.nsIn K mainGlobals "line_pulls" = some (some (.ref f_line_pulls))) (l23 : K.lookup f_line_pulls = some ⟨oc23, od23, .func (PySem.W.fnOf "line_pulls" "line_pulls" (defArgs s_line_pulls) (defBody s_line_pulls) (defScope s_line_pulls) .none kV23 dc23 pm23 an23 cd23 ct23), sl23⟩) (c23 : PySem.W.codeIn K cd23 "line_pulls" = true) (k23 : PySem.W.keepIn K (.ref f_line_pulls) = true)
    (a24 : PySem.W.nsIn K mainGlobals "turn_of" = some (some (.ref f_turn_of))) (l24 : K.lookup f_turn_of = some ⟨oc24, od24, .func (PySem.W.fnOf "turn_of" "turn_of" (defArgs s_turn_of) (defBody s_turn_of) (defScope s_turn_of) .none kV24 dc24 pm24 an24 cd24 ct24), sl24⟩) (c24 : PySem.W.codeIn K cd24 "turn_of" = true) (k24 : PySem.W.keepIn K (.ref f_turn_of) = true)
    (a25 : PySem.W.nsIn K mainGlobals "early_pulls" = some (some (.ref f_early_pulls))) (l25 : K.lookup f_early_pulls = some ⟨oc25, od25, .func (PySem.W.fnOf "early_pulls" "early_pulls" (defArgs s_early_pulls) (defBody s_early_pulls) (defScope s_early_pulls) .none kV25 dc25 pm25 an25 cd25 ct25), sl25⟩) (c25 : PySem.W.codeIn K cd25 "early_pulls" = true) (k25 : PySem.W.keepIn K (.ref f_early_pulls) = true)
    (a26 : PySem.W.nsIn K mainGlobals "_law_cell" = some (some (.ref f_law_cell))) (l26 : K.lookup f_law_cell = some ⟨oc26, od26, .func (PySem.W.fnOf "_law_cell" "_law_cell" (defArgs s_law_cell) (defBody s_law_cell) (defScope s_law_cell) .none kV26 dc26 pm26 an26 cd26 ct26), sl26⟩) (c26 : PySem.W.codeIn K cd26 "_law_cell" = true) (k26 : PySem.W.keepIn K (.ref f_law_cell) = true)
    (a27 : PySem.W.nsIn K mainGlobals "_law_divisor" = some (some (.ref f_law_divisor))) (l27 : K.lookup f_law_divisor = some ⟨oc27, od27, .func (PySem.W.fnOf "_law_divisor" "_law_divisor" (defArgs s_law_divisor) (defBody s_law_divisor) (defScope s_law_divisor) .none kV27 dc27 pm27 an27 cd27 ct27), sl27⟩) (c27 : PySem.W.codeIn K cd27 "_law_divisor" = true) (k27 : PySem.W.keepIn K (.ref f_law_divisor) = true)
    (a28 : PySem.W.nsIn K mainGlobals "_law_low" = some (some (.ref f_law_low))) (l28 : K.lookup f_law_low = some ⟨oc28, od28, .func (PySem.W.fnOf "_law_low" "_law_low" (defArgs s_law_low) (defBody s_law_low) (defScope s_law_low) .none kV28 dc28 pm28 an28 cd28 ct28), sl28⟩) (c28 : PySem.W.codeIn K cd28 "_law_low" = true) (k28 : PySem.W.keepIn K (.ref f_law_low) = true)
    (a29 : PySem.W.nsIn K mainGlobals "_law_plus" = some (some (.ref f_law_plus))) (l29 : K.lookup f_law_plus = some ⟨oc29, od29, .func (PySem.W.fnOf "_law_plus" "_law_plus" (defArgs s_law_plus) (defBody s_law_plus) (defScope s_law_plus) .none kV29 dc29 pm29 an29 cd29 ct29), sl29⟩) (c29 : PySem.W.codeIn K cd29 "_law_plus" = true) (k29 : PySem.W.keepIn K (.ref f_law_plus) = true)
    (a30 : PySem.W.nsIn K mainGlobals "_law_times" = some (some (.ref f_law_times))) (l30 : K.lookup f_law_times = some ⟨oc30, od30, .func (PySem.W.fnOf "_law_times" "_law_times" (defArgs s_law_times) (defBody s_law_times) (defScope s_law_times) .none kV30 dc30 pm30 an30 cd30 ct30), sl30⟩) (c30 : PySem.W.codeIn K cd30 "_law_times" = true) (k30 : PySem.W.keepIn K (.ref f_law_times) = true)
    (a31 : PySem.W.nsIn K mainGlobals "_law_height" = some (some (.ref f_law_height))) (l31 : K.lookup f_law_height = some ⟨oc31, od31, .func (PySem.W.fnOf "_law_height" "_law_height" (defArgs s_law_height) (defBody s_law_height) (defScope s_law_height) .none kV31 dc31 pm31 an31 cd31 ct31), sl31⟩) (c31 : PySem.W.codeIn K cd31 "_law_height" = true) (k31 : PySem.W.keepIn K (.ref f_law_height) = true)
    (a32 : PySem.W.nsIn K mainGlobals "_law_marks" = some (some (.ref f_law_marks))) (l32 : K.lookup f_law_marks = some ⟨oc32, od32, .func (PySem.W.fnOf "_law_marks" "_law_marks" (defArgs s_law_marks) (defBody s_law_marks) (defScope s_law_marks) .none kV32 dc32 pm32 an32 cd32 ct32), sl32⟩) (c32 : PySem.W.codeIn K cd32 "_law_marks" = true) (k32 : PySem.W.keepIn K (.ref f_law_marks) = true)
    (a33 : PySem.W.nsIn K mainGlobals "_law_sum" = some (some (.ref f_law_sum))) (l33 : K.lookup f_law_sum = some ⟨oc33, od33, .func (PySem.W.fnOf "_law_sum" "_law_sum" (defArgs s_law_sum) (defBody s_law_sum) (defScope s_law_sum) .none kV33 dc33 pm33 an33 cd33 ct33), sl33⟩) (c33 : PySem.W.codeIn K cd33 "_law_sum" = true) (k33 : PySem.W.keepIn K (.ref f_law_sum) = true)
    (a34 : PySem.W.nsIn K mainGlobals "_law_less" = some (some (.ref f_law_less))) (l34 : K.lookup f_law_less = some ⟨oc34, od34, .func (PySem.W.fnOf "_law_less" "_law_less" (defArgs s_law_less) (defBody s_law_less) (defScope s_law_less) .none kV34 dc34 pm34 an34 cd34 ct34), sl34⟩) (c34 : PySem.W.codeIn K cd34 "_law_less" = true) (k34 : PySem.W.keepIn K (.ref f_law_less) = true)
    (a35 : PySem.W.nsIn K mainGlobals "_law_number" = some (some (.ref f_law_number))) (l35 : K.lookup f_law_number = some ⟨oc35, od35, .func (PySem.W.fnOf "_law_number" "_law_number" (defArgs s_law_number) (defBody s_law_number) (defScope s_law_number) .none kV35 dc35 pm35 an35 cd35 ct35), sl35⟩) (c35 : PySem.W.codeIn K cd35 "_law_number" = true) (k35 : PySem.W.keepIn K (.ref f_law_number) = true)
    (a36 : PySem.W.nsIn K mainGlobals "_law_through" = some (some (.ref f_law_through))) (l36 : K.lookup f_law_through = some ⟨oc36, od36, .func (PySem.W.fnOf "_law_through" "_law_through" (defArgs s_law_through) (defBody s_law_through) (defScope s_law_through) .none kV36 dc36 pm36 an36 cd36 ct36), sl36⟩) (c36 : PySem.W.codeIn K cd36 "_law_through" = true) (k36 : PySem.W.keepIn K (.ref f_law_through) = true)
    (a37 : PySem.W.nsIn K mainGlobals "_law_other" = some (some (.ref f_law_other))) (l37 : K.lookup f_law_other = some ⟨oc37, od37, .func (PySem.W.fnOf "_law_other" "_law_other" (defArgs s_law_other) (defBody s_law_other) (defScope s_law_other) .none kV37 dc37 pm37 an37 cd37 ct37), sl37⟩) (c37 : PySem.W.codeIn K cd37 "_law_other" = true) (k37 : PySem.W.keepIn K (.ref f_law_other) = true)
    (a38 : PySem.W.nsIn K mainGlobals "law" = some (some (.ref f_law))) (l38 : K.lookup f_law = some ⟨oc38, od38, .func (PySem.W.fnOf "law" "law" (defArgs s_law) (defBody s_law) (defScope s_law) .none kV38 dc38 pm38 an38 cd38 ct38), sl38⟩) (c38 : PySem.W.codeIn K cd38 "law" = true) (k38 : PySem.W.keepIn K (.ref f_law) = true)
    (ax_NoNumber : PySem.W.nsIn K mainGlobals "NoNumber" = some (some (.ref x_NoNumber))) (xx_NoNumber : PySem.W.excIn K x_NoNumber [.type "ValueError", .type "Exception", .type "BaseException", .type "object"] "ValueError.__new__" = true)
    (ax_NoKind : PySem.W.nsIn K mainGlobals "NoKind" = some (some (.ref x_NoKind))) (xx_NoKind : PySem.W.excIn K x_NoKind [.type "ValueError", .type "Exception", .type "BaseException", .type "object"] "ValueError.__new__" = true)
    (z_abs : PySem.W.nsIn K mainGlobals "abs" = some none)
    (z_height : PySem.W.nsIn K mainGlobals "height" = some none)
    (z_isinstance : PySem.W.nsIn K mainGlobals "isinstance" = some none)
    (z_len : PySem.W.nsIn K mainGlobals "len" = some none)
    (z_list : PySem.W.nsIn K mainGlobals "list" = some none)
    (z_mark : PySem.W.nsIn K mainGlobals "mark" = some none)
    (z_max : PySem.W.nsIn K mainGlobals "max" = some none)
    (z_min : PySem.W.nsIn K mainGlobals "min" = some none)
    (z_miss : PySem.W.nsIn K mainGlobals "miss" = some none)
    (z_one : PySem.W.nsIn K mainGlobals "one" = some none)
    (z_other : PySem.W.nsIn K mainGlobals "other" = some none)
    (z_pair : PySem.W.nsIn K mainGlobals "pair" = some none)
    (z_pull : PySem.W.nsIn K mainGlobals "pull" = some none)
    (z_range : PySem.W.nsIn K mainGlobals "range" = some none)
    (z_reversed : PySem.W.nsIn K mainGlobals "reversed" = some none)
    (z_str : PySem.W.nsIn K mainGlobals "str" = some none)
    (z_sum : PySem.W.nsIn K mainGlobals "sum" = some none)
    (z_way : PySem.W.nsIn K mainGlobals "way" = some none)
    (z_weight : PySem.W.nsIn K mainGlobals "weight" = some none)
    (z_zip : PySem.W.nsIn K mainGlobals "zip" = some none)
    {tk0_KINDS tk1_KINDS tk2_KINDS : Tok} {od_KINDS : Option Addr} {n_KINDS : Nat} {sl_KINDS : Array (Option Value)} (zc_KINDS : PySem.W.nsIn K mainGlobals "KINDS" = some (some (.ref g_KINDS)))
    (lk_KINDS : K.lookup g_KINDS = some ⟨.type "tuple", od_KINDS, .seq #[(.str "far" tk0_KINDS), (.str "sum" tk1_KINDS), (.str "square" tk2_KINDS)] n_KINDS, sl_KINDS⟩)
    {tk0_NOUGHT tk1_NOUGHT : Tok} {od_NOUGHT : Option Addr} {n_NOUGHT : Nat} {sl_NOUGHT : Array (Option Value)} (zc_NOUGHT : PySem.W.nsIn K mainGlobals "NOUGHT" = some (some (.ref g_NOUGHT)))
    (lk_NOUGHT : K.lookup g_NOUGHT = some ⟨.type "tuple", od_NOUGHT, .seq #[(.int 0 tk0_NOUGHT), (.int 1 tk1_NOUGHT)] n_NOUGHT, sl_NOUGHT⟩)
    : ∃ fd : FuncData, (∀ (s : Shared) (v : Value), BindsTo s fd ⟨[v], []⟩ [("script", v)]) ∧ ∀ base : Heap, K.In base → base.Ns mainGlobals mg → FnOk l.prog w K mg base (CXE l.prog w) 8 fa fd ["script"] (spLaw K) := by
  have e := hfa.symm.trans (PySem.W.mg_of X G a38)
  cases e
  have F0 := fun_mk (st := s_common_divisor) l0 c0 k0
  have b0 := F0.binds (ps := ["one", "other"]) fun _ _ _ _ _ _ us hl => el2 us hl fun _ _ => rfl
  have F1 := fun_mk (st := s_fraction) l1 c1 k1
  have b1 := F1.binds (ps := ["top", "bottom"]) fun _ _ _ _ _ _ us hl => el2 us hl fun _ _ => rfl
  have F2 := fun_mk (st := s_plus) l2 c2 k2
  have b2 := F2.binds (ps := ["one", "other"]) fun _ _ _ _ _ _ us hl => el2 us hl fun _ _ => rfl
  have F3 := fun_mk (st := s_minus) l3 c3 k3
  have b3 := F3.binds (ps := ["one", "other"]) fun _ _ _ _ _ _ us hl => el2 us hl fun _ _ => rfl
  have F4 := fun_mk (st := s_product) l4 c4 k4
  have b4 := F4.binds (ps := ["one", "other"]) fun _ _ _ _ _ _ us hl => el2 us hl fun _ _ => rfl
  have F5 := fun_mk (st := s_quotient) l5 c5 k5
  have b5 := F5.binds (ps := ["one", "other"]) fun _ _ _ _ _ _ us hl => el2 us hl fun _ _ => rfl
  have F6 := fun_mk (st := s_is_less) l6 c6 k6
  have b6 := F6.binds (ps := ["one", "other"]) fun _ _ _ _ _ _ us hl => el2 us hl fun _ _ => rfl
  have F7 := fun_mk (st := s_size_of) l7 c7 k7
  have b7 := F7.binds (ps := ["one"]) fun _ _ _ _ _ _ us hl => el1 us hl fun _ => rfl
  have F8 := fun_mk (st := s_total_of) l8 c8 k8
  have b8 := F8.binds (ps := ["some"]) fun _ _ _ _ _ _ us hl => el1 us hl fun _ => rfl
  have F9 := fun_mk (st := s_greatest_of) l9 c9 k9
  have b9 := F9.binds (ps := ["some"]) fun _ _ _ _ _ _ us hl => el1 us hl fun _ => rfl
  have F10 := fun_mk (st := s_least_of) l10 c10 k10
  have b10 := F10.binds (ps := ["some"]) fun _ _ _ _ _ _ us hl => el1 us hl fun _ => rfl
  have F11 := fun_mk (st := s_height_at) l11 c11 k11
  have b11 := F11.binds (ps := ["numbers", "x"]) fun _ _ _ _ _ _ us hl => el2 us hl fun _ _ => rfl
  have F12 := fun_mk (st := s_row_of) l12 c12 k12
  have b12 := F12.binds (ps := ["numbers", "marks"]) fun _ _ _ _ _ _ us hl => el2 us hl fun _ _ => rfl
  have F13 := fun_mk (st := s_misses_of) l13 c13 k13
  have b13 := F13.binds (ps := ["marks", "row"]) fun _ _ _ _ _ _ us hl => el2 us hl fun _ _ => rfl
  have F14 := fun_mk (st := s_check_kind) l14 c14 k14
  have b14 := F14.binds (ps := ["kind"]) fun _ _ _ _ _ _ us hl => el1 us hl fun _ => rfl
  have F15 := fun_mk (st := s_weighed_misses) l15 c15 k15
  have b15 := F15.binds (ps := ["marks", "row"]) fun _ _ _ _ _ _ us hl => el2 us hl fun _ _ => rfl
  have F16 := fun_mk (st := s_measured) l16 c16 k16
  have b16 := F16.binds (ps := ["kind", "marks", "row"]) fun _ _ _ _ _ _ us hl => el3 us hl fun _ _ _ => rfl
  have F17 := fun_mk (st := s_least_level) l17 c17 k17
  have b17 := F17.binds (ps := ["kind", "marks"]) fun _ _ _ _ _ _ us hl => el2 us hl fun _ _ => rfl
  have F18 := fun_mk (st := s_middle_of) l18 c18 k18
  have b18 := F18.binds (ps := ["some", "weights"]) fun _ _ _ _ _ _ us hl => el2 us hl fun _ _ => rfl
  have F19 := fun_mk (st := s_in_order) l19 c19 k19
  have b19 := F19.binds (ps := ["some", "weights"]) fun _ _ _ _ _ _ us hl => el2 us hl fun _ _ => rfl
  have F20 := fun_mk (st := s_level_sum) l20 c20 k20
  have b20 := F20.binds (ps := ["marks"]) fun _ _ _ _ _ _ us hl => el1 us hl fun _ => rfl
  have F21 := fun_mk (st := s_line_sum) l21 c21 k21
  have b21 := F21.binds (ps := ["marks"]) fun _ _ _ _ _ _ us hl => el1 us hl fun _ => rfl
  have F22 := fun_mk (st := s_line_at) l22 c22 k22
  have b22 := F22.binds (ps := ["marks", "mark"]) fun _ _ _ _ _ _ us hl => el2 us hl fun _ _ => rfl
  have F23 := fun_mk (st := s_line_pulls) l23 c23 k23
  have b23 := F23.binds (ps := ["marks", "line"]) fun _ _ _ _ _ _ us hl => el2 us hl fun _ _ => rfl
  have F24 := fun_mk (st := s_turn_of) l24 c24 k24
  have b24 := F24.binds (ps := ["marks", "pulls"]) fun _ _ _ _ _ _ us hl => el2 us hl fun _ _ => rfl
  have F25 := fun_mk (st := s_early_pulls) l25 c25 k25
  have b25 := F25.binds (ps := ["marks", "misses"]) fun _ _ _ _ _ _ us hl => el2 us hl fun _ _ => rfl
  have F26 := fun_mk (st := s_law_cell) l26 c26 k26
  have b26 := F26.binds (ps := ["script", "k"]) fun _ _ _ _ _ _ us hl => el2 us hl fun _ _ => rfl
  have F27 := fun_mk (st := s_law_divisor) l27 c27 k27
  have b27 := F27.binds (ps := ["one", "other"]) fun _ _ _ _ _ _ us hl => el2 us hl fun _ _ => rfl
  have F28 := fun_mk (st := s_law_low) l28 c28 k28
  have b28 := F28.binds (ps := ["top", "bottom"]) fun _ _ _ _ _ _ us hl => el2 us hl fun _ _ => rfl
  have F29 := fun_mk (st := s_law_plus) l29 c29 k29
  have b29 := F29.binds (ps := ["one", "other"]) fun _ _ _ _ _ _ us hl => el2 us hl fun _ _ => rfl
  have F30 := fun_mk (st := s_law_times) l30 c30 k30
  have b30 := F30.binds (ps := ["one", "other"]) fun _ _ _ _ _ _ us hl => el2 us hl fun _ _ => rfl
  have F31 := fun_mk (st := s_law_height) l31 c31 k31
  have b31 := F31.binds (ps := ["cell", "shape", "place", "lean"]) fun _ _ _ _ _ _ us hl => el4 us hl fun _ _ _ _ => rfl
  have F32 := fun_mk (st := s_law_marks) l32 c32 k32
  have b32 := F32.binds (ps := ["script", "most"]) fun _ _ _ _ _ _ us hl => el2 us hl fun _ _ => rfl
  have F33 := fun_mk (st := s_law_sum) l33 c33 k33
  have b33 := F33.binds (ps := ["marks", "numbers"]) fun _ _ _ _ _ _ us hl => el2 us hl fun _ _ => rfl
  have F34 := fun_mk (st := s_law_less) l34 c34 k34
  have b34 := F34.binds (ps := ["one", "other"]) fun _ _ _ _ _ _ us hl => el2 us hl fun _ _ => rfl
  have F35 := fun_mk (st := s_law_number) l35 c35 k35
  have b35 := F35.binds (ps := ["cell"]) fun _ _ _ _ _ _ us hl => el1 us hl fun _ => rfl
  have F36 := fun_mk (st := s_law_through) l36 c36 k36
  have b36 := F36.binds (ps := ["one", "other"]) fun _ _ _ _ _ _ us hl => el2 us hl fun _ _ => rfl
  have F37 := fun_mk (st := s_law_other) l37 c37 k37
  have b37 := F37.binds (ps := ["cell", "k", "marks", "numbers"]) fun _ _ _ _ _ _ us hl => el4 us hl fun _ _ _ _ => rfl
  have F38 := fun_mk (st := s_law) l38 c38 k38
  have b38 := F38.binds (ps := ["script"]) fun _ _ _ _ _ _ us hl => el1 us hl fun _ => rfl
  have T : Txt K mg ⟨f_common_divisor, PySem.W.fnOf "common_divisor" "common_divisor" (defArgs s_common_divisor) (defBody s_common_divisor) (defScope s_common_divisor) .none kV0 dc0 pm0 an0 cd0 ct0, f_fraction, PySem.W.fnOf "fraction" "fraction" (defArgs s_fraction) (defBody s_fraction) (defScope s_fraction) .none kV1 dc1 pm1 an1 cd1 ct1, f_plus, PySem.W.fnOf "plus" "plus" (defArgs s_plus) (defBody s_plus) (defScope s_plus) .none kV2 dc2 pm2 an2 cd2 ct2, f_minus, PySem.W.fnOf "minus" "minus" (defArgs s_minus) (defBody s_minus) (defScope s_minus) .none kV3 dc3 pm3 an3 cd3 ct3, f_product, PySem.W.fnOf "product" "product" (defArgs s_product) (defBody s_product) (defScope s_product) .none kV4 dc4 pm4 an4 cd4 ct4, f_quotient, PySem.W.fnOf "quotient" "quotient" (defArgs s_quotient) (defBody s_quotient) (defScope s_quotient) .none kV5 dc5 pm5 an5 cd5 ct5, f_is_less, PySem.W.fnOf "is_less" "is_less" (defArgs s_is_less) (defBody s_is_less) (defScope s_is_less) .none kV6 dc6 pm6 an6 cd6 ct6, f_size_of, PySem.W.fnOf "size_of" "size_of" (defArgs s_size_of) (defBody s_size_of) (defScope s_size_of) .none kV7 dc7 pm7 an7 cd7 ct7, f_total_of, PySem.W.fnOf "total_of" "total_of" (defArgs s_total_of) (defBody s_total_of) (defScope s_total_of) .none kV8 dc8 pm8 an8 cd8 ct8, f_greatest_of, PySem.W.fnOf "greatest_of" "greatest_of" (defArgs s_greatest_of) (defBody s_greatest_of) (defScope s_greatest_of) .none kV9 dc9 pm9 an9 cd9 ct9, f_least_of, PySem.W.fnOf "least_of" "least_of" (defArgs s_least_of) (defBody s_least_of) (defScope s_least_of) .none kV10 dc10 pm10 an10 cd10 ct10, f_height_at, PySem.W.fnOf "height_at" "height_at" (defArgs s_height_at) (defBody s_height_at) (defScope s_height_at) .none kV11 dc11 pm11 an11 cd11 ct11, f_row_of, PySem.W.fnOf "row_of" "row_of" (defArgs s_row_of) (defBody s_row_of) (defScope s_row_of) .none kV12 dc12 pm12 an12 cd12 ct12, f_misses_of, PySem.W.fnOf "misses_of" "misses_of" (defArgs s_misses_of) (defBody s_misses_of) (defScope s_misses_of) .none kV13 dc13 pm13 an13 cd13 ct13, f_check_kind, PySem.W.fnOf "check_kind" "check_kind" (defArgs s_check_kind) (defBody s_check_kind) (defScope s_check_kind) .none kV14 dc14 pm14 an14 cd14 ct14, f_weighed_misses, PySem.W.fnOf "weighed_misses" "weighed_misses" (defArgs s_weighed_misses) (defBody s_weighed_misses) (defScope s_weighed_misses) .none kV15 dc15 pm15 an15 cd15 ct15, f_measured, PySem.W.fnOf "measured" "measured" (defArgs s_measured) (defBody s_measured) (defScope s_measured) .none kV16 dc16 pm16 an16 cd16 ct16, f_least_level, PySem.W.fnOf "least_level" "least_level" (defArgs s_least_level) (defBody s_least_level) (defScope s_least_level) .none kV17 dc17 pm17 an17 cd17 ct17, f_middle_of, PySem.W.fnOf "middle_of" "middle_of" (defArgs s_middle_of) (defBody s_middle_of) (defScope s_middle_of) .none kV18 dc18 pm18 an18 cd18 ct18, f_in_order, PySem.W.fnOf "in_order" "in_order" (defArgs s_in_order) (defBody s_in_order) (defScope s_in_order) .none kV19 dc19 pm19 an19 cd19 ct19, f_level_sum, PySem.W.fnOf "level_sum" "level_sum" (defArgs s_level_sum) (defBody s_level_sum) (defScope s_level_sum) .none kV20 dc20 pm20 an20 cd20 ct20, f_line_sum, PySem.W.fnOf "line_sum" "line_sum" (defArgs s_line_sum) (defBody s_line_sum) (defScope s_line_sum) .none kV21 dc21 pm21 an21 cd21 ct21, f_line_at, PySem.W.fnOf "line_at" "line_at" (defArgs s_line_at) (defBody s_line_at) (defScope s_line_at) .none kV22 dc22 pm22 an22 cd22 ct22, f_line_pulls, PySem.W.fnOf "line_pulls" "line_pulls" (defArgs s_line_pulls) (defBody s_line_pulls) (defScope s_line_pulls) .none kV23 dc23 pm23 an23 cd23 ct23, f_turn_of, PySem.W.fnOf "turn_of" "turn_of" (defArgs s_turn_of) (defBody s_turn_of) (defScope s_turn_of) .none kV24 dc24 pm24 an24 cd24 ct24, f_early_pulls, PySem.W.fnOf "early_pulls" "early_pulls" (defArgs s_early_pulls) (defBody s_early_pulls) (defScope s_early_pulls) .none kV25 dc25 pm25 an25 cd25 ct25, f_law_cell, PySem.W.fnOf "_law_cell" "_law_cell" (defArgs s_law_cell) (defBody s_law_cell) (defScope s_law_cell) .none kV26 dc26 pm26 an26 cd26 ct26, f_law_divisor, PySem.W.fnOf "_law_divisor" "_law_divisor" (defArgs s_law_divisor) (defBody s_law_divisor) (defScope s_law_divisor) .none kV27 dc27 pm27 an27 cd27 ct27, f_law_low, PySem.W.fnOf "_law_low" "_law_low" (defArgs s_law_low) (defBody s_law_low) (defScope s_law_low) .none kV28 dc28 pm28 an28 cd28 ct28, f_law_plus, PySem.W.fnOf "_law_plus" "_law_plus" (defArgs s_law_plus) (defBody s_law_plus) (defScope s_law_plus) .none kV29 dc29 pm29 an29 cd29 ct29, f_law_times, PySem.W.fnOf "_law_times" "_law_times" (defArgs s_law_times) (defBody s_law_times) (defScope s_law_times) .none kV30 dc30 pm30 an30 cd30 ct30, f_law_height, PySem.W.fnOf "_law_height" "_law_height" (defArgs s_law_height) (defBody s_law_height) (defScope s_law_height) .none kV31 dc31 pm31 an31 cd31 ct31, f_law_marks, PySem.W.fnOf "_law_marks" "_law_marks" (defArgs s_law_marks) (defBody s_law_marks) (defScope s_law_marks) .none kV32 dc32 pm32 an32 cd32 ct32, f_law_sum, PySem.W.fnOf "_law_sum" "_law_sum" (defArgs s_law_sum) (defBody s_law_sum) (defScope s_law_sum) .none kV33 dc33 pm33 an33 cd33 ct33, f_law_less, PySem.W.fnOf "_law_less" "_law_less" (defArgs s_law_less) (defBody s_law_less) (defScope s_law_less) .none kV34 dc34 pm34 an34 cd34 ct34, f_law_number, PySem.W.fnOf "_law_number" "_law_number" (defArgs s_law_number) (defBody s_law_number) (defScope s_law_number) .none kV35 dc35 pm35 an35 cd35 ct35, f_law_through, PySem.W.fnOf "_law_through" "_law_through" (defArgs s_law_through) (defBody s_law_through) (defScope s_law_through) .none kV36 dc36 pm36 an36 cd36 ct36, f_law_other, PySem.W.fnOf "_law_other" "_law_other" (defArgs s_law_other) (defBody s_law_other) (defScope s_law_other) .none kV37 dc37 pm37 an37 cd37 ct37, fa, PySem.W.fnOf "law" "law" (defArgs s_law) (defBody s_law) (defScope s_law) .none kV38 dc38 pm38 an38 cd38 ct38, x_NoNumber, x_NoKind, g_KINDS, g_NOUGHT⟩ := ⟨F0, PySem.W.mg_of X G a0, b0, F1, PySem.W.mg_of X G a1, b1, F2, PySem.W.mg_of X G a2, b2, F3, PySem.W.mg_of X G a3, b3, F4, PySem.W.mg_of X G a4, b4, F5, PySem.W.mg_of X G a5, b5, F6, PySem.W.mg_of X G a6, b6, F7, PySem.W.mg_of X G a7, b7, F8, PySem.W.mg_of X G a8, b8, F9, PySem.W.mg_of X G a9, b9, F10, PySem.W.mg_of X G a10, b10, F11, PySem.W.mg_of X G a11, b11, F12, PySem.W.mg_of X G a12, b12, F13, PySem.W.mg_of X G a13, b13, F14, PySem.W.mg_of X G a14, b14, F15, PySem.W.mg_of X G a15, b15, F16, PySem.W.mg_of X G a16, b16, F17, PySem.W.mg_of X G a17, b17, F18, PySem.W.mg_of X G a18, b18, F19, PySem.W.mg_of X G a19, b19, F20, PySem.W.mg_of X G a20, b20, F21, PySem.W.mg_of X G a21, b21, F22, PySem.W.mg_of X G a22, b22, F23, PySem.W.mg_of X G a23, b23, F24, PySem.W.mg_of X G a24, b24, F25, PySem.W.mg_of X G a25, b25, F26, PySem.W.mg_of X G a26, b26, F27, PySem.W.mg_of X G a27, b27, F28, PySem.W.mg_of X G a28, b28, F29, PySem.W.mg_of X G a29, b29, F30, PySem.W.mg_of X G a30, b30, F31, PySem.W.mg_of X G a31, b31, F32, PySem.W.mg_of X G a32, b32, F33, PySem.W.mg_of X G a33, b33, F34, PySem.W.mg_of X G a34, b34, F35, PySem.W.mg_of X G a35, b35, F36, PySem.W.mg_of X G a36, b36, F37, PySem.W.mg_of X G a37, b37, F38, PySem.W.mg_of X G a38, b38, ⟨xx_NoNumber, PySem.W.mg_of X G ax_NoNumber⟩, ⟨xx_NoKind, PySem.W.mg_of X G ax_NoKind⟩, PySem.W.mg_none_of X G z_abs, PySem.W.mg_none_of X G z_height, PySem.W.mg_none_of X G z_isinstance, PySem.W.mg_none_of X G z_len, PySem.W.mg_none_of X G z_list, PySem.W.mg_none_of X G z_mark, PySem.W.mg_none_of X G z_max, PySem.W.mg_none_of X G z_min, PySem.W.mg_none_of X G z_miss, PySem.W.mg_none_of X G z_one, PySem.W.mg_none_of X G z_other, PySem.W.mg_none_of X G z_pair, PySem.W.mg_none_of X G z_pull, PySem.W.mg_none_of X G z_range, PySem.W.mg_none_of X G z_reversed, PySem.W.mg_none_of X G z_str, PySem.W.mg_none_of X G z_sum, PySem.W.mg_none_of X G z_way, PySem.W.mg_none_of X G z_weight, PySem.W.mg_none_of X G z_zip, PySem.W.mg_of X G zc_KINDS, ktup (xs := [(.str "far"), (.str "sum"), (.str "square")]) lk_KINDS (Nat.le_of_lt (small1000 (show 3 ≤ 1000 by decide))) (.cons ⟨_, rfl⟩ (.cons ⟨_, rfl⟩ (.cons ⟨_, rfl⟩ .nil))) fun _ => .cons (.str "far") (.cons (.str "sum") (.cons (.str "square") .nil)), PySem.W.mg_of X G zc_NOUGHT, ktup (xs := [(.int 0), (.int 1)]) lk_NOUGHT (Nat.le_of_lt (small1000 (show 2 ≤ 1000 by decide))) (.cons ⟨_, rfl⟩ (.cons ⟨_, rfl⟩ .nil)) fun _ => .cons (.int 0) (.cons (.int 1) .nil)⟩
  exact ⟨PySem.W.fnOf "law" "law" (defArgs s_law) (defBody s_law) (defScope s_law) .none kV38 dc38 pm38 an38 cd38 ct38, fun s v => .of_eq rfl, fun base _ _ => ok_law T⟩
end My
open PySem PySem.W PyProof.Rows
set_option maxRecDepth 100000 in
set_option maxHeartbeats 0 in
theorem PySem.Challenge.cw_leastmiss_k43_whole_nothing_misses_less_holds : PySem.Challenge.rw_leastmiss_k43_whole_nothing_misses_less.Holds := by
  w_on; o_law; k_head; (case hw => w_witness2)
  k_fill
  refine Lx.walkB (l := PySem.Challenge.rw_leastmiss_k43_whole_nothing_misses_less) (k := 8) rfl rfl ⟨rfl, by decide, by decide⟩ (fun w h Y => PySem.W.kIn_of Y) ?F
  case F =>
    intro w mg fa h KX G hmg
    refine' My.all_mk KX G hmg ?a0 ?l0 ?c0 ?k0 ?a1 ?l1 ?c1 ?k1 ?a2 ?l2 ?c2 ?k2 ?a3 ?l3 ?c3 ?k3 ?a4 ?l4 ?c4 ?k4 ?a5 ?l5 ?c5 ?k5 ?a6 ?l6 ?c6 ?k6 ?a7 ?l7 ?c7 ?k7 ?a8 ?l8 ?c8 ?k8 ?a9 ?l9 ?c9 ?k9 ?a10 ?l10 ?c10 ?k10 ?a11 ?l11 ?c11 ?k11 ?a12 ?l12 ?c12 ?k12 ?a13 ?l13 ?c13 ?k13 ?a14 ?l14 ?c14 ?k14 ?a15 ?l15 ?c15 ?k15 ?a16 ?l16 ?c16 ?k16 ?a17 ?l17 ?c17 ?k17 ?a18 ?l18 ?c18 ?k18 ?a19 ?l19 ?c19 ?k19 ?a20 ?l20 ?c20 ?k20 ?a21 ?l21 ?c21 ?k21 ?a22 ?l22 ?c22 ?k22 ?a23 ?l23 ?c23 ?k23 ?a24 ?l24 ?c24 ?k24 ?a25 ?l25 ?c25 ?k25 ?a26 ?l26 ?c26 ?k26 ?a27 ?l27 ?c27 ?k27 ?a28 ?l28 ?c28 ?k28 ?a29 ?l29 ?c29 ?k29 ?a30 ?l30 ?c30 ?k30 ?a31 ?l31 ?c31 ?k31 ?a32 ?l32 ?c32 ?k32 ?a33 ?l33 ?c33 ?k33 ?a34 ?l34 ?c34 ?k34 ?a35 ?l35 ?c35 ?k35 ?a36 ?l36 ?c36 ?k36 ?a37 ?l37 ?c37 ?k37 ?a38 ?l38 ?c38 ?k38 ?ax_NoNumber ?xx_NoNumber ?ax_NoKind ?xx_NoKind ?z_abs ?z_height ?z_isinstance ?z_len ?z_list ?z_mark ?z_max ?z_min ?z_miss ?z_one ?z_other ?z_pair ?z_pull ?z_range ?z_reversed ?z_str ?z_sum ?z_way ?z_weight ?z_zip ?zc_KINDS ?lk_KINDS ?zc_NOUGHT ?lk_NOUGHT
    (case a0 => k_is)
    (case l0 => k_is)
    (case c0 => k_is)
    (case k0 => k_is)
    (case a1 => k_is)
    (case l1 => k_is)
    (case c1 => k_is)
    (case k1 => k_is)
    (case a2 => k_is)
    (case l2 => k_is)
    (case c2 => k_is)
    (case k2 => k_is)
    (case a3 => k_is)
    (case l3 => k_is)
    (case c3 => k_is)
    (case k3 => k_is)
    (case a4 => k_is)
    (case l4 => k_is)
    (case c4 => k_is)
    (case k4 => k_is)
    (case a5 => k_is)
    (case l5 => k_is)
    (case c5 => k_is)
    (case k5 => k_is)
    (case a6 => k_is)
    (case l6 => k_is)
    (case c6 => k_is)
    (case k6 => k_is)
    (case a7 => k_is)
    (case l7 => k_is)
    (case c7 => k_is)
    (case k7 => k_is)
    (case a8 => k_is)
    (case l8 => k_is)
    (case c8 => k_is)
    (case k8 => k_is)
    (case a9 => k_is)
    (case l9 => k_is)
    (case c9 => k_is)
    (case k9 => k_is)
    (case a10 => k_is)
    (case l10 => k_is)
    (case c10 => k_is)
    (case k10 => k_is)
    (case a11 => k_is)
    (case l11 => k_is)
    (case c11 => k_is)
    (case k11 => k_is)
    (case a12 => k_is)
    (case l12 => k_is)
    (case c12 => k_is)
    (case k12 => k_is)
    (case a13 => k_is)
    (case l13 => k_is)
    (case c13 => k_is)
    (case k13 => k_is)
    (case a14 => k_is)
    (case l14 => k_is)
    (case c14 => k_is)
    (case k14 => k_is)
    (case a15 => k_is)
    (case l15 => k_is)
    (case c15 => k_is)
    (case k15 => k_is)
    (case a16 => k_is)
    (case l16 => k_is)
    (case c16 => k_is)
    (case k16 => k_is)
    (case a17 => k_is)
    (case l17 => k_is)
    (case c17 => k_is)
    (case k17 => k_is)
    (case a18 => k_is)
    (case l18 => k_is)
    (case c18 => k_is)
    (case k18 => k_is)
    (case a19 => k_is)
    (case l19 => k_is)
    (case c19 => k_is)
    (case k19 => k_is)
    (case a20 => k_is)
    (case l20 => k_is)
    (case c20 => k_is)
    (case k20 => k_is)
    (case a21 => k_is)
    (case l21 => k_is)
    (case c21 => k_is)
    (case k21 => k_is)
    (case a22 => k_is)
    (case l22 => k_is)
    (case c22 => k_is)
    (case k22 => k_is)
    (case a23 => k_is)
    (case l23 => k_is)
    (case c23 => k_is)
    (case k23 => k_is)
    (case a24 => k_is)
    (case l24 => k_is)
    (case c24 => k_is)
    (case k24 => k_is)
    (case a25 => k_is)
    (case l25 => k_is)
    (case c25 => k_is)
    (case k25 => k_is)
    (case a26 => k_is)
    (case l26 => k_is)
    (case c26 => k_is)
    (case k26 => k_is)
    (case a27 => k_is)
    (case l27 => k_is)
    (case c27 => k_is)
    (case k27 => k_is)
    (case a28 => k_is)
    (case l28 => k_is)
    (case c28 => k_is)
    (case k28 => k_is)
    (case a29 => k_is)
    (case l29 => k_is)
    (case c29 => k_is)
    (case k29 => k_is)
    (case a30 => k_is)
    (case l30 => k_is)
    (case c30 => k_is)
    (case k30 => k_is)
    (case a31 => k_is)
    (case l31 => k_is)
    (case c31 => k_is)
    (case k31 => k_is)
    (case a32 => k_is)
    (case l32 => k_is)
    (case c32 => k_is)
    (case k32 => k_is)
    (case a33 => k_is)
    (case l33 => k_is)
    (case c33 => k_is)
    (case k33 => k_is)
    (case a34 => k_is)
    (case l34 => k_is)
    (case c34 => k_is)
    (case k34 => k_is)
    (case a35 => k_is)
    (case l35 => k_is)
    (case c35 => k_is)
    (case k35 => k_is)
    (case a36 => k_is)
    (case l36 => k_is)
    (case c36 => k_is)
    (case k36 => k_is)
    (case a37 => k_is)
    (case l37 => k_is)
    (case c37 => k_is)
    (case k37 => k_is)
    (case a38 => k_is)
    (case l38 => k_is)
    (case c38 => k_is)
    (case k38 => k_is)
    (case ax_NoNumber => k_is)
    (case xx_NoNumber => k_exc)
    (case ax_NoKind => k_is)
    (case xx_NoKind => k_exc)
    (case z_abs => k_is)
    (case z_height => k_is)
    (case z_isinstance => k_is)
    (case z_len => k_is)
    (case z_list => k_is)
    (case z_mark => k_is)
    (case z_max => k_is)
    (case z_min => k_is)
    (case z_miss => k_is)
    (case z_one => k_is)
    (case z_other => k_is)
    (case z_pair => k_is)
    (case z_pull => k_is)
    (case z_range => k_is)
    (case z_reversed => k_is)
    (case z_str => k_is)
    (case z_sum => k_is)
    (case z_way => k_is)
    (case z_weight => k_is)
    (case z_zip => k_is)
    (case zc_KINDS => k_is)
    (case lk_KINDS => k_is)
    (case zc_NOUGHT => k_is)
    (case lk_NOUGHT => k_is)
