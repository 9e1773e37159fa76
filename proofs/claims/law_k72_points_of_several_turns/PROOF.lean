import PyProof.Rows.All
import Wide.All
import OpenK.AllK
import Wide.FinOn
import Lean
import PyProof.EqAt
import PyProof.EqKinds
import PyProof.TupleCall
import KE.KUnpack
import KE.KTab
import KE.LcSums
import KE.KSortTup
import KE.KDictAny
import PyProof.WalkInts
import PyProof.MinMaxWalk
import PyProof.P3In
import PySem.Challenge.RW_hangrings_k72_points_of_several_turns
set_option bootstrap.genMatcherCode false
section
set_option Elab.async false
set_option linter.all false
set_option maxRecDepth 100000
namespace L2
open PySem PySem.Spec PyProof.Rows
noncomputable abbrev Key := Sum Int Str
noncomputable def keyIs : Key → Value → Bool
  | .inl k, v => Value.isInt k v
  | .inr x, v => Value.isStrOf x v
noncomputable def keyH (w : World) : Key → Int
  | .inl k => hashInt k
  | .inr x => hashStr w x
theorem keyIs_shape : ∀ {k : Key} {v : Value}, keyIs k v = true → (∃ i t, k = Sum.inl i ∧ v = Value.int i t) ∨ (∃ x t, k = Sum.inr x ∧ v = Value.str x t)
  | .inl i, v, h => by
    obtain ⟨t, e⟩ := Value.isInt_shape (k := i) (v := v) h
    exact .inl ⟨i, t, rfl, e⟩
  | .inr x, v, h => by
    obtain ⟨t, e⟩ := Value.isStrOf_shape (x := x) (v := v) h
    exact .inr ⟨x, t, rfl, e⟩
theorem key_ll (a b : Int) : decide ((Sum.inl a : Key) = Sum.inl b) = (a == b) := by
  by_cases e : a = b
  · subst e; simp
  · have h : ¬ (Sum.inl a : Key) = Sum.inl b := fun q => e (Sum.inl.inj q)
    rw [decide_eq_false h]
    exact (beq_eq_false_iff_ne.mpr e).symm
theorem key_rr (a b : Str) : decide ((Sum.inr a : Key) = Sum.inr b) = decide (a = b) := by
  by_cases e : a = b
  · subst e; simp
  · have h : ¬ (Sum.inr a : Key) = Sum.inr b := fun q => e (Sum.inr.inj q)
    rw [decide_eq_false h, decide_eq_false e]
theorem key_lr (a : Int) (b : Str) : decide ((Sum.inl a : Key) = Sum.inr b) = false := decide_eq_false (fun q => nomatch q)
theorem key_rl (a : Str) (b : Int) : decide ((Sum.inr a : Key) = Sum.inl b) = false := decide_eq_false (fun q => nomatch q)
noncomputable def mixKind (prog : Program) (w : World) : PySem.KeyKind prog w Key where
  is := keyIs
  hash := keyH w
  inj := fun v a b ha hb => by
    rcases keyIs_shape ha with ⟨i, t, rfl, rfl⟩ | ⟨x, t, rfl, rfl⟩
    · rcases keyIs_shape hb with ⟨j, u, rfl, e⟩ | ⟨y, u, rfl, e⟩
      · injection e with e1 _; rw [e1]
      · exact nomatch e
    · rcases keyIs_shape hb with ⟨j, u, rfl, e⟩ | ⟨y, u, rfl, e⟩
      · exact nomatch e
      · injection e with e1 _; rw [e1]
  byValue := fun k v h => by
    rcases keyIs_shape h with ⟨i, t, rfl, rfl⟩ | ⟨x, t, rfl, rfl⟩ <;> rfl
  pyHash := fun hv h => by
    rcases keyIs_shape hv with ⟨i, t, rfl, rfl⟩ | ⟨x, t, rfl, rfl⟩
    · exact wpAny_pyHash_int h
    · exact wpAny_pyHash_str h
  eqBool := fun hu hv h => by
    rcases keyIs_shape hu with ⟨i, t, rfl, rfl⟩ | ⟨x, t, rfl, rfl⟩
    · rcases keyIs_shape hv with ⟨j, u, rfl, rfl⟩ | ⟨y, u, rfl, rfl⟩
      · rw [key_ll] at h; exact wpAny_eqBool_int h
      · rw [key_lr] at h; exact SeqAt.EqAt.int_str i t y u _ _ _ _ h
    · rcases keyIs_shape hv with ⟨j, u, rfl, rfl⟩ | ⟨y, u, rfl, rfl⟩
      · rw [key_rl] at h; exact SeqAt.EqAt.str_int x t j u _ _ _ _ h
      · rw [key_rr] at h; exact wpAny_eqBool_str h
  «strs» := fun k x t v h => by
    rcases keyIs_shape h with ⟨i, u, rfl, e⟩ | ⟨y, u, rfl, e⟩
    · exact nomatch e
    · injection e with e1 _
      subst e1
      cases v <;> rfl
end L2
namespace L2
open PySem PySem.Spec PyProof.Rows
inductive V where
  | non | bl (b : Bool) | int (i : Int) | str (x : Str) | byt (b : Array UInt8) | flt (b : UInt64) | ref (a : Addr) | ty (n : String)
  deriving DecidableEq
noncomputable def RelV : V → Value → Prop
  | .non, u => u = Value.none
  | .bl b, u => u = Value.bool b
  | .int i, u => ∃ t, u = Value.int i t
  | .str x, u => ∃ t, u = Value.str x t
  | .byt b, u => ∃ t, u = Value.bytes b t
  | .flt b, u => ∃ t, u = Value.float b t
  | .ref a, u => u = Value.ref a
  | .ty n, u => u = Value.type n
noncomputable abbrev Vals : List V → List Value → Prop := Paired RelV
theorem Vals.length {xs : List V} {us : List Value} (r : Vals xs us) : xs.length = us.length := Paired.length r
theorem Vals.get : ∀ {xs : List V} {us : List Value} {i : Nat} {x : V}, Vals xs us → xs[i]? = some x → ∃ u, us[i]? = some u ∧ RelV x u
  | _, _, _, _, .nil, e => by simp at e
  | _, _, 0, _, .cons r _, e => by simp at e; subst e; exact ⟨_, rfl, r⟩
  | _, _, i + 1, x, .cons _ t, e => by
    obtain ⟨u, h1, h2⟩ := Vals.get (i := i) (x := x) t (by simpa using e)
    exact ⟨u, by simpa using h1, h2⟩
theorem Vals.set {x : V} {u : Value} (r : RelV x u) : ∀ {xs : List V} {us : List Value} (i : Nat), Vals xs us → Vals (xs.set i x) (us.set i u)
  | _, _, _, .nil => .nil
  | _, _, 0, .cons _ t => .cons r t
  | _, _, i + 1, .cons q t => .cons q (Vals.set r i t)
theorem Vals.append : ∀ {xs ys : List V} {us ws : List Value}, Vals xs us → Vals ys ws → Vals (xs ++ ys) (us ++ ws)
  | _, _, _, _, .nil, s => s
  | _, _, _, _, .cons r t, s => .cons r (Vals.append t s)
theorem Vals.take : ∀ {xs : List V} {us : List Value} (n : Nat), Vals xs us → Vals (xs.take n) (us.take n)
  | _, _, 0, _ => .nil
  | _, _, _ + 1, .nil => .nil
  | _, _, n + 1, .cons r t => .cons r (Vals.take n t)
theorem Vals.drop : ∀ {xs : List V} {us : List Value} (n : Nat), Vals xs us → Vals (xs.drop n) (us.drop n)
  | _, _, 0, r => r
  | _, _, _ + 1, .nil => .nil
  | _, _, n + 1, .cons _ t => Vals.drop n t
noncomputable def RelO : Option V → Option Value → Prop
  | some v, some u => RelV v u
  | none, none => True
  | _, _ => False
noncomputable def KV {κ : Type} : List (κ × V) → List (κ × Value) → Prop := Paired fun (p : κ × V) (q : κ × Value) => p.1 = q.1 ∧ RelV p.2 q.2
noncomputable def kV : Key → V
  | .inl i => .int i
  | .inr x => .str x
inductive HO where
  | lst (xs : List V)
  | tup (xs : List V)
  | dK (kvs : List (Key × V)) | dT (kvs : List (List Key × V))
  | set (S : Int → Bool) (n : Nat)
  | ins (C dx : Addr) (fs : List (Str × V))
  | own (x : Addr)
  | xd (fs : List (Str × V))
  | met (f x : Addr)
  | rng (lo hi : Int)
  | frz (o : Obj) (u : HO)
  | tbl (ps : Array Value)
  | ext (φ : Heap → Prop)
noncomputable abbrev Hp := Addr → Option HO
noncomputable def upd (H : Hp) (a : Addr) (o : HO) : Hp := fun b => if b = a then some o else H b
theorem upd_same {H : Hp} {a : Addr} {o : HO} : upd H a o a = some o := by unfold upd; rw [if_pos rfl]
theorem upd_ne {H : Hp} {a b : Addr} {o : HO} (h : b ≠ a) : upd H a o b = H b := by unfold upd; rw [if_neg h]
theorem ne_of {H : Hp} {a b : Addr} {o u : HO} (h : H a = some o) (h' : H b = some u) (d : o ≠ u) : a ≠ b := by
  intro e; subst e; rw [h] at h'; exact d (Option.some.inj h')
theorem ne_of_none {H : Hp} {a b : Addr} {o : HO} (h : H a = some o) (h' : H b = none) : a ≠ b := by
  intro e; subst e; rw [h] at h'; cases h'
section
variable (P : Program) (w : World)
noncomputable def ObjOk (H : Hp) (h : Heap) (a : Addr) : HO → Prop
  | .lst xs => xs.length ≤ sizeLine ∧ ∃ (its : List Value) (n : Nat), Vals xs its ∧ h.get? a = some { cls := .type "list", data := .seq its.toArray n }
  | .tup xs => xs.length ≤ sizeLine ∧ ∃ its : List Value, Vals xs its ∧ IsTup h a its.toArray
  | .dK kvs => kvs.length ≤ sizeLine ∧ (a == sysModules) = false ∧ ∃ vs, KV kvs vs ∧ h.DictOf (mixKind P w) a vs
  | .dT kvs => kvs.length ≤ sizeLine ∧ (a == sysModules) = false ∧ ∃ xs : List (List Key × Addr × Value),
      Paired (fun (p : List Key × V) (q : List Key × Addr × Value) => p.1 = q.1 ∧ H q.2.1 = some (.tup (p.1.map kV)) ∧ RelV p.2 q.2.2) kvs xs ∧
      ∃ o es ep, h.get? a = some o ∧ o.ExactDict ∧ o.data = .dict es ep ∧ es.toList = xs.map (entryOfKey (tupleKind (mixKind P w))) ∧ (xs.map (·.1)).Nodup
  | .set S n => h.SetOf (intKind P w) a S n
  | .ins C dx fs => H dx = some (.own a) ∧ fs.length ≤ 1000 ∧ dx ≠ a ∧ h.get? a = some (PySem.W.instObj C dx) ∧
      ∃ mA, h.Ns1 dx mA ∧ (∀ f, RelO (fs.lookup f) (mA f)) ∧ PySem.Within mA (fs.map (·.1))
  | .own _ => ∃ o, h.get? a = some o
  | .xd fs => ∃ mA, h.Ns1 a mA ∧ ∀ f, RelO (fs.lookup f) (mA f)
  | .rng lo hi => ∃ t u v, h.get? a = some { cls := .type "range", data := .fields #[.int lo t, .int hi u, .int 1 v] }
  | .frz o u => h.get? a = some o ∧ ObjOk H h a u
  | .tbl ps => h.get? a = some { cls := .none, data := .fields ps }
  | .met f x => h.get? a = some (PySem.W.methodObj (.ref f) (.ref x))
  | .ext φ => φ h ∧ (∃ o, h.get? a = some o) ∧ ∀ h1 h2 : Heap, φ h1 → (∀ o, h1.get? a = some o → h2.get? a = some o) → φ h2
noncomputable def HOk (H : Hp) (h : Heap) : Prop := ∀ a o, H a = some o → ObjOk P w H h a o
end
section
variable {P : Program} {w : World} {H H' : Hp} {h h' : Heap} {a : Addr} {o : HO}
theorem ObjOk.lt (x : ObjOk P w H h a o) : a < h.objs.size := by
  cases o with
  | lst xs => obtain ⟨_, _, _, _, e⟩ := x; exact Heap.lt_size e
  | tup xs => obtain ⟨_, _, _, p⟩ := x; exact p.lt
  | dK kvs => obtain ⟨_, _, _, _, o, _, _, e, _⟩ := x; exact Heap.lt_size e
  | dT kvs => obtain ⟨_, _, _, _, o, _, _, e, _⟩ := x; exact Heap.lt_size e
  | set S n => obtain ⟨o, _, _, _, e, _⟩ := x; exact Heap.lt_size e
  | ins C dx fs => obtain ⟨_, _, _, e, _⟩ := x; exact Heap.lt_size e
  | own y => obtain ⟨_, e⟩ := x; exact Heap.lt_size e
  | xd fs => obtain ⟨_, ⟨_, _, _, e, _⟩, _⟩ := x; exact Heap.lt_size e
  | rng lo hi => obtain ⟨_, _, _, e⟩ := x; exact Heap.lt_size e
  | frz ob u => obtain ⟨e, _⟩ := x; exact Heap.lt_size e
  | tbl ps => exact Heap.lt_size (show h.get? a = some _ from x)
  | met f y => exact Heap.lt_size (show h.get? a = some _ from x)
  | ext φ => obtain ⟨_, ⟨_, e⟩, _⟩ := x; exact Heap.lt_size e
theorem Paired.mapP {α β : Type} {F G : α → β → Prop} : ∀ {l₁ : List α} {l₂ : List β}, Paired F l₁ l₂ → (∀ a b, F a b → G a b) → Paired G l₁ l₂
  | _, _, .nil, _ => .nil
  | _, _, .cons r t, f => .cons (f _ _ r) (Paired.mapP t f)
theorem ObjOk.stay (x : ObjOk P w H h a o) (k : ∀ b u, (b = a ∨ H b = some (.own a)) → h.get? b = some u → h'.get? b = some u)
    (ho : ∀ b, H b = some (.own a) → H' b = some (.own a)) (ht : ∀ b xs, H b = some (.tup xs) → H' b = some (.tup xs)) : ObjOk P w H' h' a o := by
  induction o with
  | lst xs => obtain ⟨z, its, n, r, e⟩ := x; exact ⟨z, its, n, r, k _ _ (.inl rfl) e⟩
  | tup xs => obtain ⟨z, its, r, ob, e, c⟩ := x; exact ⟨z, its, r, ob, k _ _ (.inl rfl) e, c⟩
  | dK kvs => obtain ⟨z, y, vs, r, ob, es, ep, e, c⟩ := x; exact ⟨z, y, vs, r, ob, es, ep, k _ _ (.inl rfl) e, c⟩
  | dT kvs =>
    obtain ⟨z, y, xs, r, ob, es, ep, e, c⟩ := x
    exact ⟨z, y, xs, Paired.mapP r fun p q z => ⟨z.1, ht _ _ z.2.1, z.2.2⟩, ob, es, ep, k _ _ (.inl rfl) e, c⟩
  | set S n => obtain ⟨ob, es, ep, t, e, c⟩ := x; exact ⟨ob, es, ep, t, k _ _ (.inl rfl) e, c⟩
  | ins C dx fs =>
    obtain ⟨d, z, ne, e, mA, ⟨od, es, ep, e2, c⟩, r⟩ := x
    exact ⟨ho _ d, z, ne, k _ _ (.inl rfl) e, mA, ⟨od, es, ep, k _ _ (.inr d) e2, c⟩, r⟩
  | own y => obtain ⟨ob, e⟩ := x; exact ⟨ob, k _ _ (.inl rfl) e⟩
  | xd fs => obtain ⟨mA, ⟨od, es, ep, e, c⟩, r⟩ := x; exact ⟨mA, ⟨od, es, ep, k _ _ (.inl rfl) e, c⟩, r⟩
  | rng lo hi => obtain ⟨t, u, v, e⟩ := x; exact ⟨t, u, v, k _ _ (.inl rfl) e⟩
  | frz ob u ih => obtain ⟨e, q⟩ := x; exact ⟨k _ _ (.inl rfl) e, ih q⟩
  | tbl ps =>
    have e : h.get? a = some { cls := .none, data := .fields ps } := x
    show h'.get? a = some { cls := .none, data := .fields ps }
    exact k a _ (.inl rfl) e
  | met f y =>
    have e : h.get? a = some (PySem.W.methodObj (.ref f) (.ref y)) := x
    show h'.get? a = some (PySem.W.methodObj (.ref f) (.ref y))
    exact k a _ (.inl rfl) e
  | ext φ => obtain ⟨p, ⟨o, e⟩, st⟩ := x; exact ⟨st _ _ p fun o q => k _ _ (.inl rfl) q, ⟨o, k _ _ (.inl rfl) e⟩, st⟩
theorem HOk.lt (x : HOk P w H h) (e : H a = some o) : a < h.objs.size := (x a o e).lt
theorem HOk.fresh (x : HOk P w H h) (e : h.objs.size ≤ a) : H a = none := by
  cases q : H a with
  | none => rfl
  | some u => exact absurd (Nat.lt_of_lt_of_le (x.lt q) e) (Nat.lt_irrefl _)
theorem HOk.kept (x : HOk P w H h) (k : ∀ b u, h.get? b = some u → h'.get? b = some u) : HOk P w H h' := fun a o e =>
  (x a o e).stay (fun b u _ q => k b u q) (fun _ q => q) fun _ _ q => q
theorem HOk.laid (x : HOk P w H h) (k : ∀ b u, h.get? b = some u → h'.get? b = some u) (hp : h.objs.size ≤ a) (new : ObjOk P w (upd H a o) h' a o) : HOk P w (upd H a o) h' := fun b u e => by
  have hn := x.fresh hp
  by_cases hb : b = a
  · subst hb; rw [upd_same] at e; cases e; exact new
  · rw [upd_ne hb] at e
    exact (x b u e).stay (fun c v _ q => k c v q) (fun c q => by rw [upd_ne (ne_of_none q hn)]; exact q) fun c xs q => by rw [upd_ne (ne_of_none q hn)]; exact q
end
noncomputable def Rd (H : Hp) (a : Addr) (u : HO) : Prop := H a = some u ∨ ∃ o, H a = some (.frz o u)
theorem Rd.ok {P : Program} {w : World} {H : Hp} {h : Heap} {a : Addr} {u : HO} (r : Rd H a u) (x : HOk P w H h) : ObjOk P w H h a u := by
  rcases r with r | ⟨o, r⟩
  · exact x a u r
  · obtain ⟨_, q⟩ := x a _ r
    exact q
noncomputable def Mut : Option HO → Prop
  | some (.lst _) => True
  | some (.dK _) => True
  | some (.dT _) => True
  | some (.set _ _) => True
  | some (.ins _ _ _) => True
  | some (.ext _) => True
  | _ => False
section
variable {P : Program} {w : World} {H : Hp} {h h' : Heap} {x e : Addr} {o' : HO}
theorem HOk.write (ok : HOk P w H h) (mu : Mut (H x)) (he : e = x ∨ H e = some (.own x)) (k : ∀ b u, b ≠ e → h.get? b = some u → h'.get? b = some u) (heo : ∃ u, h'.get? e = some u)
    (new : ObjOk P w (upd H x o') h' x o') : HOk P w (upd H x o') h' := fun b u q => by
  have nown : ∀ c y, H c = some (.own y) → c ≠ x := fun c y r z => by subst z; rw [r] at mu; exact mu
  have ntup : ∀ c xs, H c = some (.tup xs) → c ≠ x := fun c xs r z => by subst z; rw [r] at mu; exact mu
  by_cases hb : b = x
  · subst hb; rw [upd_same] at q; cases q; exact new
  · rw [upd_ne hb] at q
    by_cases hbe : b = e
    · have q' : H b = some (.own x) := by
        rcases he with z | z
        · exact absurd (hbe.trans z) hb
        · rw [hbe]; exact z
      rw [q] at q'; cases q'
      obtain ⟨v, hv⟩ := heo
      exact ⟨v, by rw [hbe]; exact hv⟩
    · refine (ok b u q).stay (fun c v hc r => k c v ?_ r) (fun c r => by rw [upd_ne (nown c b r)]; exact r) fun c xs r => by rw [upd_ne (ntup c xs r)]; exact r
      rcases hc with rfl | hc
      · exact hbe
      · rintro rfl
        rcases he with z | z
        · exact nown c b hc z
        · rw [hc] at z; cases z; exact hb rfl
end
structure Un (fs ex : List Addr) (H H' : Hp) (h h' : Heap) : Prop where
  keep : ∀ b o, h.get? b = some o → H b = none → b ∉ fs → b ∉ ex → h'.get? b = some o
  slot : ∀ b o, h.get? b = some o → H b = none → b ∈ fs → b ∉ ex → ∃ sl, h'.get? b = some { o with slots := sl }
  free : ∀ b o, h.get? b = some o → H b = none → b ∉ ex → H' b = none
  there : ∀ b o, h.get? b = some o → b ∉ ex → ∃ o', h'.get? b = some o'
  tups : ∀ b xs, H b = some (.tup xs) → H' b = some (.tup xs)
  frzs : ∀ b o u, H b = some (.frz o u) → H' b = some (.frz o u)
  tbls : ∀ b ps, H b = some (.tbl ps) → ∃ more, H' b = some (.tbl (ps ++ more))
section
variable {fs fs' ex ex' : List Addr} {H H1 H2 : Hp} {h h1 h2 h' : Heap} {a x e : Addr} {o : HO}
theorem Un.any (u : Un fs ex H H1 h h1) {b : Addr} {ob : Obj} (q : h.get? b = some ob) (n : H b = none) (hx : b ∉ ex) : ∃ sl, h1.get? b = some { ob with slots := sl } := by
  by_cases hb : b ∈ fs
  · exact u.slot b ob q n hb hx
  · exact ⟨ob.slots, u.keep b ob q n hb hx⟩
theorem Un.kept (k : ∀ b u, h.get? b = some u → h'.get? b = some u) : Un fs ex H H h h' :=
  ⟨fun b ob q _ _ _ => k b ob q, fun b ob q _ _ _ => ⟨ob.slots, k b ob q⟩, fun _ _ _ n _ => n, fun b ob q _ => ⟨ob, k b ob q⟩, fun _ _ q => q, fun _ _ _ q => q, fun _ ps q => ⟨#[], by rw [q]; simp⟩⟩
theorem Un.refl : Un fs ex H H h h := Un.kept fun _ _ q => q
theorem Un.laid (k : ∀ b u, h.get? b = some u → h'.get? b = some u) (hp : h.objs.size ≤ a) (hn : H a = none) : Un fs ex H (upd H a o) h h' where
  keep := fun b u q _ _ _ => k b u q
  slot := fun b u q _ _ _ => ⟨u.slots, k b u q⟩
  free := fun b u q n _ => by rw [upd_ne (Nat.ne_of_lt (Nat.lt_of_lt_of_le (Heap.lt_size q) hp))]; exact n
  there := fun b u q _ => ⟨u, k b u q⟩
  tups := fun b xs q => by rw [upd_ne (ne_of_none q hn)]; exact q
  frzs := fun b u xs q => by rw [upd_ne (ne_of_none q hn)]; exact q
  tbls := fun b ps q => ⟨#[], by rw [upd_ne (ne_of_none q hn), q]; simp⟩
theorem Un.write (mu : Mut (H x)) (he : e = x ∨ H e = some (.own x)) (k : ∀ b u, b ≠ e → h.get? b = some u → h'.get? b = some u) (heo : ∃ u, h'.get? e = some u) : Un fs ex H (upd H x o) h h' := by
  have hx : ∀ b, H b = none → b ≠ x := fun b n z => by subst z; rw [n] at mu; exact mu
  have hb : ∀ b, H b = none → b ≠ e := fun b n z => by
    subst z
    rcases he with r | r
    · exact hx b n r
    · rw [n] at r; cases r
  have hm : ∀ b u, H b = some u → ¬ Mut (some u) → b ≠ x := fun b u q nm z => by subst z; rw [q] at mu; exact nm mu
  refine ⟨fun b u q n _ _ => k b u (hb b n) q, fun b u q n _ _ => ⟨u.slots, k b u (hb b n) q⟩, fun b u q n _ => by rw [upd_ne (hx b n)]; exact n, fun b u q _ => ?_,
    fun b xs q => by rw [upd_ne (hm b _ q fun z => z)]; exact q, fun b u xs q => by rw [upd_ne (hm b _ q fun z => z)]; exact q, fun b ps q => ⟨#[], by rw [upd_ne (hm b _ q fun z => z), q]; simp⟩⟩
  by_cases hbe : b = e
  · subst hbe; exact heo
  · exact ⟨u, k b u hbe q⟩
end
noncomputable def trk (h : Heap) (H : Hp) : List Addr := (List.range h.objs.size).filter fun a => (H a).isSome
noncomputable def hidT (h : Heap) (H : Hp) : Heap := PySem.W.hideAll h (trk h H)
theorem hidT_size (h : Heap) (H : Hp) : (hidT h H).objs.size = h.objs.size := PySem.W.hideAll_size _ _
theorem hidT_get {h : Heap} {H : Hp} {b : Addr} {o : Obj} (e : h.get? b = some o) (n : H b = none) : (hidT h H).get? b = some o :=
  PySem.W.hideAll_get _ e fun hm => by
    have q : (H b).isSome = true := (List.mem_filter.mp hm).2
    rw [n] at q; simp at q
theorem of_hidT {h : Heap} {H : Hp} {b : Addr} {o : Obj} (e : (hidT h H).get? b = some o) : h.get? b = some o ∧ H b = none := by
  have e' : h.get? b = some o := PySem.W.of_hideAll (trk h H) e
  refine ⟨e', ?_⟩
  cases q : H b with
  | none => rfl
  | some x =>
    have hm : b ∈ trk h H := List.mem_filter.mpr ⟨List.mem_range.mpr (Heap.lt_size e'), by simp [q]⟩
    have z : (hidT h H).get? b = none := PySem.W.hideAll_none (trk h H) hm
    rw [z] at e; cases e
noncomputable def allNews (g h : Heap) (L : Addr) : List (Addr × Obj) := (List.range h.objs.size).filterMap fun a => if a = L ∨ (g.get? a).isSome = true then none else (h.get? a).map fun o => (a, o)
noncomputable def rest (g h : Heap) (L d : Addr) : List (Addr × Obj) := (allNews g h L).filter fun p => decide (p.1 ≠ d)
end L2
namespace L2
open PySem PySem.Spec PyProof.Rows
structure Mod (K : PySem.W.Frag) (mg : Str → Option Value) (base : Heap) : Prop where
  kin : K.In base
  glob : base.Ns mainGlobals mg
  blt : ∃ mb, base.Ns builtinsNs mb ∧ ∀ x : Str, x ≠ "__name__" → mb x = bootBuiltins x
  nolimit : base.NoLimit
structure Cx where
  prog : Program
  w : World
  K : PySem.W.Frag
  mg : Str → Option Value
  base : Heap
  A : Around
  N : List Str
  s₀ : Shared
  H₀ : Hp
  env : Env
  outer : List Env
  stack : List Env
  ex : List Addr
  fn : Str → Bool
  calm : Bool
  pn : List (Addr × Obj)
  xe : Value → Shared → Prop
noncomputable def frs (l : List Env) : List Addr := l.filterMap (·.frame)
noncomputable abbrev Cx.fs (X : Cx) : List Addr := frs X.outer
noncomputable def Vis (sc : Scope) (x : Str) : Prop := sc.names.lookup x = some .local ∨ sc.names.lookup x = some .cell ∨ sc.names.lookup x = some .free
noncomputable def Loc (sc : Scope) (x : Str) : Prop := sc.names.lookup x = some .local ∨ sc.names.lookup x = some .cell
noncomputable def Look (env : Env) (h : Heap) (m : Str → Option Value) (x : Str) (u : Value) : Prop :=
  (env.kindOf x = some .local ∧ m x = some u) ∨ ((env.kindOf x = some .cell ∨ env.kindOf x = some .free) ∧ ∃ c, env.cells.lookup x = some c ∧ h.IsCell c (some u))
structure Cx.Ok (X : Cx) : Prop where
  mod : Mod X.K X.mg X.base
  kind : X.env.scope.kind = .function
  glob : X.env.globals = mainGlobals
  blt : X.env.builtins = builtinsNs
  above : X.s₀.heap.objs.size ≤ X.env.locals
  inj : ∀ x y c, X.env.cells.lookup x = some c → X.env.cells.lookup y = some c → x = y
  has : ∀ x, (X.env.kindOf x = some .cell ∨ X.env.kindOf x = some .free) → ∃ c, X.env.cells.lookup x = some c
  cab : ∀ x c, X.fn x = true → X.env.cells.lookup x = some c → X.s₀.heap.objs.size ≤ c
  hd : X.calm = true → X.A.handled = none
  frames : X.A.frames = some X.stack
  stk : X.stack = X.outer ∨ (X.stack = X.env :: X.outer ∧ X.env.frame = some X.env.locals)
  exf : ∀ b ∈ X.ex, b ≠ X.env.locals ∧ ∀ x c, X.env.cells.lookup x = some c → c ≠ b
  bs : ∀ b o, X.base.get? b = some o → X.s₀.heap.get? b = some o ∧ X.H₀ b = none
  bsz : X.base.objs.size ≤ X.s₀.heap.objs.size
  noex : ∀ b o, X.base.get? b = some o → b ∉ X.ex
  exfs : ∀ b ∈ X.ex, b ∉ X.fs
  funs : X.s₀.heap.FunFrames X.base X.outer
  frf : ∀ b ∈ X.fs, X.H₀ b = none
structure Inv (X : Cx) (pins : List (Addr × Obj)) (σ : List (Option V)) (H : Hp) (s : Shared) : Prop where
  ok : X.Ok
  os : s.os = X.s₀.os
  bare : AllBare s.gens
  base : Un X.fs X.ex X.H₀ H X.s₀.heap s.heap
  loc : ∃ m, s.heap.Ns X.env.locals m ∧ ∀ (i : Nat) (x : Str) (v : V), X.N[i]? = some x → σ[i]? = some (some v) → Vis X.env.scope x → ∃ u, RelV v u ∧ Look X.env s.heap m x u
  cell : ∀ x c, X.env.cells.lookup x = some c → ∃ v, s.heap.IsCell c v
  free : H X.env.locals = none
  freeC : ∀ x c, X.env.cells.lookup x = some c → H c = none
  pin : ∀ p ∈ X.pn ++ pins, s.heap.get? p.1 = some p.2 ∧ H p.1 = none ∧ p.1 ≠ X.env.locals ∧ p.1 ∉ X.fs ∧ ∀ v, p.2.data ≠ .cell v
  hok : HOk X.prog X.w H s.heap
  len : σ.length = X.N.length
section
variable {X : Cx} {pins : List (Addr × Obj)} {σ : List (Option V)} {H H' : Hp} {s : Shared} {h' : Heap}
theorem Cx.Ok.nofr (ok : X.Ok) {b : Addr} {o : Obj} (e : X.base.get? b = some o) : b ∉ X.fs := fun hb => by
  have := (ok.funs.mem hb).1
  rw [e] at this; cases this
theorem Inv.bs (I : Inv X pins σ H s) : ∀ b o, X.base.get? b = some o → s.heap.get? b = some o ∧ H b = none := fun b o e =>
  ⟨I.base.keep b o (I.ok.bs b o e).1 (I.ok.bs b o e).2 (I.ok.nofr e) (I.ok.noex b o e), I.base.free b o (I.ok.bs b o e).1 (I.ok.bs b o e).2 (I.ok.noex b o e)⟩
theorem Inv.bk (I : Inv X pins σ H s) : ∀ b o, X.base.get? b = some o → s.heap.get? b = some o := fun b o e => (I.bs b o e).1
theorem Inv.mod (I : Inv X pins σ H s) : Mod X.K X.mg X.base := I.ok.mod
theorem Inv.kIn (I : Inv X pins σ H s) : X.K.In s.heap := I.ok.mod.kin.keeps I.bk
theorem Inv.fr (I : Inv X pins σ H s) : ∃ m, Fr X.base X.env.locals s.heap m :=
  let ⟨m, hn, _⟩ := I.loc
  ⟨m, hn, I.bk, Nat.le_trans I.ok.bsz I.ok.above⟩
theorem Inv.lt (I : Inv X pins σ H s) : X.env.locals < s.heap.objs.size := let ⟨_, hn, _⟩ := I.loc; hn.lt
theorem Inv.sz (I : Inv X pins σ H s) : X.s₀.heap.objs.size ≤ s.heap.objs.size := Nat.le_trans I.ok.above (Nat.le_of_lt I.lt)
theorem Inv.nofs (I : Inv X pins σ H s) {a : Addr} (h : s.heap.objs.size ≤ a) : a ∉ X.fs := fun hb => by
  obtain ⟨_, o, ho, _⟩ := I.ok.funs.mem hb
  exact absurd (Nat.lt_of_lt_of_le (Heap.lt_size ho) (Nat.le_trans I.sz h)) (Nat.lt_irrefl _)
theorem Inv.cne (I : Inv X pins σ H s) : ∀ x c, X.env.cells.lookup x = some c → c ≠ X.env.locals := fun x c e z => by
  obtain ⟨v, o, ho, hd⟩ := I.cell x c e
  obtain ⟨m, ⟨o', es, ep, ho', hd', _⟩, _⟩ := I.loc
  rw [z, ho'] at ho; cases ho; rw [hd'] at hd; cases hd
theorem Inv.funs (I : Inv X pins σ H s) : s.heap.FunFrames X.base X.outer := by
  have all : ∀ (l : List Env), (∀ b ∈ frs l, b ∈ X.fs) → X.s₀.heap.FunFrames X.base l → s.heap.FunFrames X.base l := by
    intro l
    induction l with
    | nil => intro _ _; trivial
    | cons env r ih =>
      intro hs hl
      obtain ⟨hk, ⟨L, o, hf, hn, ho, hd⟩, hr⟩ := hl
      have hL : L ∈ X.fs := hs L (by unfold frs; rw [List.filterMap_cons, hf]; exact List.mem_cons_self)
      obtain ⟨sl, e⟩ := I.base.slot L o ho (I.ok.frf L hL) hL fun z => I.ok.exfs L z hL
      exact ⟨hk, ⟨L, _, hf, hn, e, hd⟩, ih (fun b hb => hs b (by unfold frs; rw [List.filterMap_cons, hf]; exact List.mem_cons_of_mem _ hb)) hr⟩
  exact all X.outer (fun _ hb => hb) I.ok.funs
theorem Inv.stack (I : Inv X pins σ H s) : s.heap.FunFrames X.base X.stack := by
  rcases I.ok.stk with e | ⟨e, hf⟩
  · rw [e]; exact I.funs
  · rw [e]
    obtain ⟨m, hn, _⟩ := I.loc
    refine .cons (by rw [I.ok.kind]; decide) hf hn ?_ I.funs
    exact Heap.get?_none_of_le (Nat.le_trans I.ok.bsz I.ok.above)
theorem Inv.stkSub (I : Inv X pins σ H s) : ∀ b ∈ frs X.stack, b ∈ X.env.locals :: X.fs := fun b hb => by
  rcases I.ok.stk with e | ⟨e, hf⟩
  · rw [e] at hb; exact List.mem_cons_of_mem _ hb
  · rw [e] at hb
    unfold frs at hb
    rw [List.filterMap_cons, hf] at hb
    exact hb
theorem Inv.stkFree (I : Inv X pins σ H s) : ∀ b ∈ frs X.stack, H b = none := fun b hb => by
  rcases List.mem_cons.mp (I.stkSub b hb) with e | hb
  · rw [e]; exact I.free
  · obtain ⟨_, o, ho, _⟩ := I.ok.funs.mem hb
    exact I.base.free b o ho (I.ok.frf b hb) fun z => I.ok.exfs b z hb
theorem Inv.step {g' : Array GenState} {t' : Nat} {d' : Drawn} {ch : List Addr} (I : Inv X pins σ H s)
    (hch : ∀ b ∈ ch, (b ∈ X.ex ∨ X.s₀.heap.objs.size ≤ b) ∧ b ≠ X.env.locals ∧ (∀ x c, X.env.cells.lookup x = some c → c ≠ b) ∧ ∀ p ∈ X.pn ++ pins, p.1 ≠ b)
    (keep : ∀ b o, b ≠ X.env.locals → b ∉ X.fs → b ∉ ch → s.heap.get? b = some o → H b = none → h'.get? b = some o)
    (slot : ∀ b o, b ≠ X.env.locals → b ∈ X.fs → b ∉ ch → s.heap.get? b = some o → H b = none → ∃ sl, h'.get? b = some { o with slots := sl }) (free : ∀ b o, b ∉ ch → s.heap.get? b = some o → H b = none → H' b = none)
    (there : ∀ b o, b ∉ ch → s.heap.get? b = some o → ∃ o', h'.get? b = some o')
    (tups : ∀ b xs, H b = some (.tup xs) → H' b = some (.tup xs)) (frzs : ∀ b o u, H b = some (.frz o u) → H' b = some (.frz o u)) (tbls : ∀ b ps, H b = some (.tbl ps) → ∃ more, H' b = some (.tbl (ps ++ more)))
    (ns : ∀ m, s.heap.Ns X.env.locals m → h'.Ns X.env.locals m) (hok : HOk X.prog X.w H' h') (hg : AllBare g') :
    Inv X pins σ H' { s with heap := h', gens := g', drawn := d', toks := t' } := by
  have neL : ∀ b o, X.s₀.heap.get? b = some o → b ≠ X.env.locals := fun b o e => Nat.ne_of_lt (Nat.lt_of_lt_of_le (Heap.lt_size e) I.ok.above)
  have neC : ∀ b o, X.s₀.heap.get? b = some o → b ∉ X.ex → b ∉ ch := fun b o e hx hb => by
    rcases (hch b hb).1 with z | z
    · exact hx z
    · exact absurd (Nat.lt_of_lt_of_le (Heap.lt_size e) z) (Nat.lt_irrefl _)
  have cellK : ∀ x c, X.env.cells.lookup x = some c → ∀ v, s.heap.IsCell c v → h'.IsCell c v := fun x c e v ⟨o, ho, hd⟩ => by
    have nch : c ∉ ch := fun z => (hch c z).2.2.1 x c e rfl
    by_cases hc : c ∈ X.fs
    · obtain ⟨sl, q⟩ := slot c o (I.cne x c e) hc nch ho (I.freeC x c e)
      exact ⟨_, q, hd⟩
    · exact ⟨o, keep c o (I.cne x c e) hc nch ho (I.freeC x c e), hd⟩
  refine ⟨I.ok, I.os, hg, ⟨fun b o e n hb hx => ?_, fun b o e n hb hx => ?_, fun b o e n hx => ?_, fun b o e hx => ?_, fun b xs e => tups b xs (I.base.tups b xs e), fun b o xs e => frzs b o xs (I.base.frzs b o xs e), fun b ps e => ?_⟩, ?_, fun x c e => ?_, ?_, fun x c e => ?_, fun p hp => ?_, hok, I.len⟩
  · exact keep b o (neL b o e) hb (neC b o e hx) (I.base.keep b o e n hb hx) (I.base.free b o e n hx)
  · obtain ⟨sl, e1⟩ := I.base.slot b o e n hb hx
    obtain ⟨sl', e2⟩ := slot b _ (neL b o e) hb (neC b o e hx) e1 (I.base.free b o e n hx)
    exact ⟨sl', e2⟩
  · obtain ⟨o', e1⟩ := I.base.there b o e hx
    exact free b o' (neC b o e hx) e1 (I.base.free b o e n hx)
  · obtain ⟨o', e1⟩ := I.base.there b o e hx
    exact there b o' (neC b o e hx) e1
  · obtain ⟨m1, e1⟩ := I.base.tbls b ps e
    obtain ⟨m2, e2⟩ := tbls b _ e1
    exact ⟨m1 ++ m2, by rw [e2, Array.append_assoc]⟩
  · obtain ⟨m, hn, hl⟩ := I.loc
    refine ⟨m, ns m hn, fun i x v e1 e2 e3 => ?_⟩
    obtain ⟨u, r, l⟩ := hl i x v e1 e2 e3
    refine ⟨u, r, ?_⟩
    rcases l with l | ⟨k, c, e, z⟩
    · exact .inl l
    · exact .inr ⟨k, c, e, cellK x c e _ z⟩
  · obtain ⟨v, z⟩ := I.cell x c e
    exact ⟨v, cellK x c e v z⟩
  · obtain ⟨m, ⟨o, _, _, ho, _⟩, _⟩ := I.loc
    exact free _ o (fun z => (hch _ z).2.1 rfl) ho I.free
  · obtain ⟨v, o, ho, hd⟩ := I.cell x c e
    exact free c o (fun z => (hch c z).2.2.1 x c e rfl) ho (I.freeC x c e)
  · obtain ⟨e, n, ne, nf, d⟩ := I.pin p hp
    have nch : p.1 ∉ ch := fun z => (hch p.1 z).2.2.2 p hp rfl
    exact ⟨keep p.1 p.2 ne nf nch e n, free p.1 p.2 nch e n, ne, nf, d⟩
theorem Inv.un {t' : Nat} (I : Inv X pins σ H s) (u : Un X.fs [] H H' s.heap h') (hok : HOk X.prog X.w H' h') : Inv X pins σ H' { s with heap := h', toks := t' } := by
  obtain ⟨m, ⟨o, es, ep, ho, r⟩, _⟩ := id I.loc
  obtain ⟨sl, hL⟩ := u.any ho I.free (by simp)
  exact I.step (g' := s.gens) (d' := s.drawn) (ch := []) (fun _ z => nomatch z) (fun b o _ hb _ e n => u.keep b o e n hb (by simp)) (fun b o _ hb _ e n => u.slot b o e n hb (by simp)) (fun b o _ e n => u.free b o e n (by simp)) (fun b o _ e => u.there b o e (by simp)) u.tups u.frzs u.tbls (fun m' hm => by
    obtain ⟨o', es', ep', ho', r'⟩ := hm
    rw [ho] at ho'; cases ho'
    exact ⟨_, es', ep', hL, r'⟩) hok I.bare
theorem Inv.call {g' : Array GenState} {t' : Nat} {d' : Drawn} {ch : List Addr} (I : Inv X pins σ H s) (u : Un (frs X.stack) ch H H' s.heap h') (hok : HOk X.prog X.w H' h') (hg : AllBare g')
    (hch : ∀ b ∈ ch, (b ∈ X.ex ∨ X.s₀.heap.objs.size ≤ b) ∧ b ≠ X.env.locals ∧ (∀ x c, X.env.cells.lookup x = some c → c ≠ b) ∧ ∀ p ∈ X.pn ++ pins, p.1 ≠ b) :
    Inv X pins σ H' { s with heap := h', gens := g', drawn := d', toks := t' } := by
  obtain ⟨m, ⟨o, es, ep, ho, r⟩, _⟩ := id I.loc
  obtain ⟨sl, hL⟩ := u.any ho I.free fun z => (hch _ z).2.1 rfl
  exact I.step (ch := ch) hch (fun b o hL hb hc e n => u.keep b o e n (fun z => (List.mem_cons.mp (I.stkSub b z)).elim hL hb) hc) (fun b o _ _ hc e n => u.any e n hc) (fun b o hc e n => u.free b o e n hc) (fun b o hc e => u.there b o e hc) u.tups u.frzs u.tbls (fun m' hm => by
    obtain ⟨o', es', ep', ho', r'⟩ := hm
    rw [ho] at ho'; cases ho'
    exact ⟨_, es', ep', hL, r'⟩) hok hg
theorem Inv.turned {t' : Nat} {it : Addr} (I : Inv X pins σ H s) (k : ∀ b o, b ≠ it → s.heap.get? b = some o → h'.get? b = some o) (hn : H it = none) (hL : it ≠ X.env.locals)
    (h1 : it ∈ X.ex ∨ X.s₀.heap.objs.size ≤ it) (h2 : ∀ x c, X.env.cells.lookup x = some c → c ≠ it) (h3 : ∀ p ∈ X.pn ++ pins, p.1 ≠ it) : Inv X pins σ H { s with heap := h', toks := t' } := by
  have nit : ∀ b u, H b = some u → b ≠ it := fun b u e z => by rw [z, hn] at e; cases e
  refine I.step (g' := s.gens) (d' := s.drawn) (ch := [it]) (fun b hb => ?_) (fun b o _ _ hc e _ => k b o (fun z => hc (by simp [z])) e) (fun b o _ _ hc e _ => ⟨o.slots, k b o (fun z => hc (by simp [z])) e⟩) (fun _ _ _ _ n => n)
    (fun b o hc e => ⟨o, k b o (fun z => hc (by simp [z])) e⟩) (fun _ _ e => e) (fun _ _ _ e => e) (fun b ps e => ⟨#[], by rw [e]; simp⟩) (fun m hm => ?_) (fun b u e => ?_) I.bare
  · have e : b = it := by simpa using hb
    subst e
    exact ⟨h1, hL, h2, h3⟩
  · obtain ⟨o, es, ep, ho, r⟩ := hm
    exact ⟨o, es, ep, k _ o (Ne.symm hL) ho, r⟩
  · refine (I.hok b u e).stay (fun c v hc q => k c v ?_ q) (fun _ q => q) fun _ _ q => q
    rcases hc with z | z
    · rw [z]; exact nit b u e
    · exact nit c _ z
theorem Inv.tok (I : Inv X pins σ H s) (t : Nat) : Inv X pins σ H { s with toks := t } := I.un (h' := s.heap) (t' := t) Un.refl I.hok
theorem Inv.kept {t' : Nat} (I : Inv X pins σ H s) (k : ∀ b u, s.heap.get? b = some u → h'.get? b = some u) : Inv X pins σ H { s with heap := h', toks := t' } := I.un (Un.kept k) (I.hok.kept k)
theorem Inv.laid {a : Addr} {o : HO} {t' : Nat} (I : Inv X pins σ H s) (k : ∀ b u, s.heap.get? b = some u → h'.get? b = some u) (hp : s.heap.objs.size ≤ a) (new : ObjOk X.prog X.w (upd H a o) h' a o) :
    Inv X pins σ (upd H a o) { s with heap := h', toks := t' } := I.un (Un.laid k hp (I.hok.fresh hp)) (I.hok.laid k hp new)
theorem Inv.write {x e : Addr} {o : HO} {t' : Nat} (I : Inv X pins σ H s) (mu : Mut (H x)) (he : e = x ∨ H e = some (.own x)) (k : ∀ b u, b ≠ e → s.heap.get? b = some u → h'.get? b = some u) (heo : ∃ u, h'.get? e = some u)
    (new : ObjOk X.prog X.w (upd H x o) h' x o) : Inv X pins σ (upd H x o) { s with heap := h', toks := t' } := I.un (Un.write mu he k heo) (I.hok.write mu he k heo new)
theorem Inv.pins_of {pins' : List (Addr × Obj)} (I : Inv X pins σ H s) (h : ∀ p ∈ pins', s.heap.get? p.1 = some p.2 ∧ H p.1 = none ∧ p.1 ≠ X.env.locals ∧ p.1 ∉ X.fs ∧ ∀ v, p.2.data ≠ .cell v) : Inv X pins' σ H s :=
  ⟨I.ok, I.os, I.bare, I.base, I.loc, I.cell, I.free, I.freeC, fun p hp => (List.mem_append.mp hp).elim (fun z => I.pin p (List.mem_append_left _ z)) (h p), I.hok, I.len⟩
theorem nodup_ix {N : List Str} (hN : N.Nodup) {i j : Nat} {x : Str} (a : N[i]? = some x) (b : N[j]? = some x) : i = j := by
  obtain ⟨h1, e1⟩ := List.getElem?_eq_some_iff.mp a
  obtain ⟨h2, e2⟩ := List.getElem?_eq_some_iff.mp b
  exact (List.getElem_inj hN).mp (e1.trans e2.symm)
theorem store_ok2 {M : Model} {A : Around} {E : Value → Shared → Prop} {i : Nat} {x : Str} {v : V} {u : Value} {Q : Unit → Shared → Prop} (I : Inv X pins σ H s) (hN : X.N.Nodup) (hi : X.N[i]? = some x) (hx : Loc X.env.scope x) (r : RelV v u)
    (h : ∀ s', Inv X pins (σ.set i (some v)) H s' → (∃ a, Heap.SameBut a s.heap s'.heap ∧ (a = X.env.locals ∨ X.env.cells.lookup x = some a)) → Q () s') (hf : X.fn x = true ∨ X.env.scope.names.lookup x = some .local := by first | exact .inl rfl | exact .inr rfl | assumption) : wpAny M A (storeName X.env x u) Q E s := by
  obtain ⟨m, hn, hl⟩ := id I.loc
  have hcls : (X.env.scope.kind == .class || (X.env.scope.kind == .module && X.env.locals != X.env.globals)) = false := by rw [I.ok.kind]; rfl
  have hiσ : i < σ.length := by rw [I.len]; exact (List.getElem?_eq_some_iff.mp hi).1
  have cne := I.cne
  have tracked : ∀ {a : Addr} {h' : Heap}, (∃ o, s.heap.get? a = some o ∧ H a = none) → Heap.SameBut a s.heap h' → HOk X.prog X.w H h' := fun {a h'} ha hs b ob e => by
    obtain ⟨_, _, hfree⟩ := ha
    refine (I.hok b ob e).stay (fun c w' hc q => (hs.2 c ?_).trans q) (fun _ q => q) fun _ _ q => q
    rintro rfl
    rcases hc with rfl | hc
    · rw [hfree] at e; cases e
    · rw [hfree] at hc; cases hc
  rcases hx with hk | hk
  · refine wpAny_storeName_local hk hn (fun h' hn' hs => ?_) hcls
    obtain ⟨oL, _, _, hoL, _⟩ := id hn
    refine h _ ⟨I.ok, I.os, I.bare, ⟨fun b o e n hb hx => ?_, fun b o e n hb hx => ?_, I.base.free, fun b o e hx => ?_, I.base.tups, I.base.frzs, I.base.tbls⟩, ⟨_, hn', fun j y v' e1 e2 e3 => ?_⟩, fun y c e => ?_, I.free, I.freeC, fun p hp => ?_, tracked ⟨oL, hoL, I.free⟩ hs, by simpa using I.len⟩ ⟨_, hs, .inl rfl⟩
    · exact (hs.2 b (Nat.ne_of_lt (Nat.lt_of_lt_of_le (Heap.lt_size e) I.ok.above))).trans (I.base.keep b o e n hb hx)
    · obtain ⟨sl, e1⟩ := I.base.slot b o e n hb hx
      exact ⟨sl, (hs.2 b (Nat.ne_of_lt (Nat.lt_of_lt_of_le (Heap.lt_size e) I.ok.above))).trans e1⟩
    · obtain ⟨o', e1⟩ := I.base.there b o e hx
      exact ⟨o', (hs.2 b (Nat.ne_of_lt (Nat.lt_of_lt_of_le (Heap.lt_size e) I.ok.above))).trans e1⟩
    · by_cases hj : j = i
      · subst hj
        rw [hi] at e1; cases e1
        rw [List.getElem?_set_self hiσ] at e2
        cases e2
        exact ⟨u, r, .inl ⟨hk, by simp⟩⟩
      · rw [List.getElem?_set_ne (Ne.symm hj)] at e2
        obtain ⟨u', r', q⟩ := hl j y v' e1 e2 e3
        refine ⟨u', r', ?_⟩
        rcases q with ⟨k, e⟩ | ⟨k, c, e, z⟩
        · refine .inl ⟨k, ?_⟩
          have : y ≠ x := fun e => hj (nodup_ix hN e1 (e ▸ hi))
          simp [this, e]
        · exact .inr ⟨k, c, e, z.sameBut hs (cne y c e)⟩
    · obtain ⟨w', z⟩ := I.cell y c e
      exact ⟨w', z.sameBut hs (cne y c e)⟩
    · obtain ⟨e, n, ne, nf, d⟩ := I.pin p hp
      exact ⟨(hs.2 p.1 ne).trans e, n, ne, nf, d⟩
  · have hfn : X.fn x = true := by
      rcases hf with z | z
      · exact z
      · rw [z] at hk; cases hk
    obtain ⟨c, hc⟩ := I.ok.has x (.inl hk)
    obtain ⟨w', z⟩ := I.cell x c hc
    refine wpAny_storeName_cell I.ok.kind hk hc z (fun h' hc' hs => ?_)
    obtain ⟨oc, hoc, hocd⟩ := id z
    refine h { s with heap := h' } ⟨I.ok, I.os, I.bare, ⟨fun b o e n hb hx => ?_, fun b o e n hb hx => ?_, I.base.free, fun b o e hx => ?_, I.base.tups, I.base.frzs, I.base.tbls⟩, ⟨m, hn.sameBut hs (Ne.symm (cne x c hc)), fun j y v' e1 e2 e3 => ?_⟩, fun y c' e => ?_, I.free, I.freeC, fun p hp => ?_, tracked ⟨oc, hoc, I.freeC x c hc⟩ hs, by simpa using I.len⟩ ⟨c, hs, .inr hc⟩
    · exact (hs.2 b (Nat.ne_of_lt (Nat.lt_of_lt_of_le (Heap.lt_size e) (I.ok.cab x c hfn hc)))).trans (I.base.keep b o e n hb hx)
    · obtain ⟨sl, e1⟩ := I.base.slot b o e n hb hx
      exact ⟨sl, (hs.2 b (Nat.ne_of_lt (Nat.lt_of_lt_of_le (Heap.lt_size e) (I.ok.cab x c hfn hc)))).trans e1⟩
    · obtain ⟨o', e1⟩ := I.base.there b o e hx
      exact ⟨o', (hs.2 b (Nat.ne_of_lt (Nat.lt_of_lt_of_le (Heap.lt_size e) (I.ok.cab x c hfn hc)))).trans e1⟩
    · by_cases hj : j = i
      · subst hj
        rw [hi] at e1; cases e1
        rw [List.getElem?_set_self hiσ] at e2
        cases e2
        exact ⟨u, r, .inr ⟨.inl hk, c, hc, hc'⟩⟩
      · rw [List.getElem?_set_ne (Ne.symm hj)] at e2
        obtain ⟨u', r', q⟩ := hl j y v' e1 e2 e3
        refine ⟨u', r', ?_⟩
        rcases q with q | ⟨k, c', e, z'⟩
        · exact .inl q
        · refine .inr ⟨k, c', e, z'.sameBut hs ?_⟩
          rintro rfl
          exact hj (nodup_ix hN e1 (I.ok.inj _ _ _ e hc ▸ hi))
    · by_cases hcc : c' = c
      · subst hcc; exact ⟨_, hc'⟩
      · obtain ⟨w2, z2⟩ := I.cell y c' e
        exact ⟨w2, z2.sameBut hs hcc⟩
    · obtain ⟨e, n, ne, nf, d⟩ := I.pin p hp
      refine ⟨(hs.2 p.1 ?_).trans e, n, ne, nf, d⟩
      intro q
      rw [q, hoc] at e
      have q' : oc = p.2 := Option.some.inj e
      exact d w' (by rw [← q']; exact hocd)
theorem store_ok {M : Model} {A : Around} {E : Value → Shared → Prop} {i : Nat} {x : Str} {v : V} {u : Value} {Q : Unit → Shared → Prop} (I : Inv X pins σ H s) (hN : X.N.Nodup) (hi : X.N[i]? = some x) (hx : Loc X.env.scope x) (r : RelV v u)
    (h : ∀ s', Inv X pins (σ.set i (some v)) H s' → Q () s') (hf : X.fn x = true ∨ X.env.scope.names.lookup x = some .local := by first | exact .inl rfl | exact .inr rfl | assumption) : wpAny M A (storeName X.env x u) Q E s :=
  store_ok2 I hN hi hx r (fun s' I' _ => h s' I') hf
theorem Inv.call' {s' : Shared} {ch : List Addr} (I : Inv X pins σ H s) (ho : s'.os = s.os) (u : Un (frs X.stack) ch H H' s.heap s'.heap) (hok : HOk X.prog X.w H' s'.heap) (hg : AllBare s'.gens)
    (hch : ∀ b ∈ ch, (b ∈ X.ex ∨ X.s₀.heap.objs.size ≤ b) ∧ b ≠ X.env.locals ∧ (∀ x c, X.env.cells.lookup x = some c → c ≠ b) ∧ ∀ p ∈ X.pn ++ pins, p.1 ≠ b) : Inv X pins σ H' s' := by
  obtain ⟨h', g', d', t', o'⟩ := s'
  have e : o' = s.os := ho
  subst e
  exact I.call (g' := g') (t' := t') (d' := d') u hok hg hch
end
noncomputable abbrev XK := Value → Option Addr → Hp → Prop
noncomputable abbrev St := List (Option V)
noncomputable abbrev VK := V → Hp → Prop
noncomputable abbrev TE := St → Hp → VK → Prop
noncomputable abbrev TT := St → Hp → (Bool → Hp → Prop) → Prop
noncomputable abbrev TA := St → Hp → (List V → Hp → Prop) → Prop
structure Ends where
  nx : St → Hp → Prop
  rt : VK
  bk : St → Hp → Prop := fun _ _ => False
  ct : St → Hp → Prop := fun _ _ => False
noncomputable abbrev TS := Ends → St → Hp → Prop
noncomputable def EP (X : Cx) (pins : List (Addr × Obj)) (σ : St) (Q : VK) (u : Value) (s' : Shared) : Prop := ∃ v H', Inv X pins σ H' s' ∧ RelV v u ∧ Q v H'
noncomputable def TP (X : Cx) (pins : List (Addr × Obj)) (σ : St) (Q : Bool → Hp → Prop) (b : Bool) (s' : Shared) : Prop := ∃ H', Inv X pins σ H' s' ∧ Q b H'
noncomputable def AP (X : Cx) (pins : List (Addr × Obj)) (σ : St) (Q : List V → Hp → Prop) (us : List Value) (s' : Shared) : Prop := ∃ vs H', Inv X pins σ H' s' ∧ Vals vs us ∧ Q vs H'
noncomputable def SP (X : Cx) (pins : List (Addr × Obj)) (D : Ends) (f : Flow) (s' : Shared) : Prop :=
  match f with
  | .next => ∃ σ' H', Inv X pins σ' H' s' ∧ D.nx σ' H'
  | .brk => ∃ σ' H', Inv X pins σ' H' s' ∧ D.bk σ' H'
  | .cont => ∃ σ' H', Inv X pins σ' H' s' ∧ D.ct σ' H'
  | .ret u => ∃ v σ' H', Inv X pins σ' H' s' ∧ RelV v u ∧ D.rt v H'
noncomputable def PE (X : Cx) (e : Expr) (t : TE) : Prop :=
  ∀ (pins : List (Addr × Obj)) (s : Shared) (σ : St) (H : Hp) (Q : VK), Inv X pins σ H s → t σ H Q → wpAny (model X.prog X.w) X.A (eval e X.env) (EP X pins σ Q) X.xe s
noncomputable def PT (X : Cx) (e : Expr) (t : TT) : Prop :=
  ∀ (pins : List (Addr × Obj)) (s : Shared) (σ : St) (H : Hp) (Q : Bool → Hp → Prop), Inv X pins σ H s → t σ H Q → wpAny (model X.prog X.w) X.A (isTrue e X.env (eval e X.env)) (TP X pins σ Q) X.xe s
noncomputable def PW (X : Cx) (e : Expr) (t : TT) : Prop :=
  ∀ (whole : Sem Value) (pins : List (Addr × Obj)) (s : Shared) (σ : St) (H : Hp) (Q : Bool → Hp → Prop), Inv X pins σ H s → t σ H Q → wpAny (model X.prog X.w) X.A (isTrue e X.env whole) (TP X pins σ Q) X.xe s
theorem PW.pt {X : Cx} {e : Expr} {t : TT} (h : PW X e t) : PT X e t := h _
noncomputable def PA (X : Cx) (es : List Expr) (t : TA) : Prop :=
  ∀ (pos : Pos) (pins : List (Addr × Obj)) (s : Shared) (σ : St) (H : Hp) (Q : List V → Hp → Prop), Inv X pins σ H s → t σ H Q → wpAny (model X.prog X.w) X.A (spliced (backTo pos (starEach es X.env))) (AP X pins σ Q) X.xe s
noncomputable def PS (X : Cx) (st : Stmt) (t : TS) : Prop :=
  ∀ (pins : List (Addr × Obj)) (s : Shared) (σ : St) (H : Hp) (D : Ends), Inv X pins σ H s → t D σ H → wpAny (model X.prog X.w) X.A (exec st X.env) (SP X pins D) X.xe s
noncomputable def PSs (X : Cx) (st : List Stmt) (t : TS) : Prop :=
  ∀ (pins : List (Addr × Obj)) (s : Shared) (σ : St) (H : Hp) (D : Ends), Inv X pins σ H s → t D σ H → wpAny (model X.prog X.w) X.A (execs st X.env) (SP X pins D) X.xe s
theorem thn {α : Type} {t : Sem α} {Q Q' : α → Shared → Prop} {M : Model} {A : Around} {E : Value → Shared → Prop} {s : Shared} (h : wpAny M A t Q E s) (hQ : ∀ a s, Q a s → Q' a s) : wpAny M A t Q' E s := wpAny_mono h hQ fun _ _ x => x
end L2
namespace L2
open PySem PySem.Spec PyProof.Rows
section
variable {X : Cx}
theorem bin {a b : Expr} {ta tb : TE} (ha : PE X a ta) (hb : PE X b tb) {pins : List (Addr × Obj)} {s : Shared} {σ : St} {H : Hp} {R : V → V → Hp → Prop} (I : Inv X pins σ H s) (h : ta σ H fun x H1 => tb σ H1 fun y H2 => R x y H2)
    {α : Type} {Q : α → Shared → Prop} {f : Value → Value → Sem α}
    (hf : ∀ v u s2 x y H2, Inv X pins σ H2 s2 → RelV x v → RelV y u → R x y H2 → wpAny (model X.prog X.w) X.A (f v u) Q X.xe s2) :
    wpAny (model X.prog X.w) X.A (eval a X.env) (fun v s₁ => wpAny (model X.prog X.w) X.A (eval b X.env) (fun u s₂ => wpAny (model X.prog X.w) X.A (f v u) Q X.xe s₂) X.xe s₁) X.xe s := by
  refine thn (ha pins s σ H _ I h) fun v s1 ⟨x, H1, I1, r1, q1⟩ => ?_
  refine thn (hb pins s1 σ H1 _ I1 q1) fun u s2 ⟨y, H2, I2, r2, q2⟩ => ?_
  exact hf v u s2 x y H2 I2 r1 r2 q2
noncomputable def tVar (i : Nat) : TE := fun σ H Q => ∃ v, σ[i]? = some (some v) ∧ Q v H
noncomputable def tC (v : V) : TE := fun _ H Q => Q v H
theorem pe_var {i : Nat} {x : Str} {pos : Pos} (hN : X.N[i]? = some x) (hv : Vis X.env.scope x) (hd : (x == ("__debug__" : Str)) = false := by decide) (hcd : (x == ("__classdict__" : Str)) = false := by decide) : PE X (.Name x pos) (tVar i) := by
  intro pins s σ H Q I h
  obtain ⟨v, e, h⟩ := h
  obtain ⟨m, hn, hl⟩ := I.loc
  obtain ⟨u, r, l⟩ := hl i x v hN e hv
  have fin : EP X pins σ Q u s := ⟨v, H, I, r, h⟩
  rcases l with ⟨hk, hm⟩ | ⟨hk, c, hc, hcell⟩
  · exact wpAny_Name (wpAny_loadName_local I.ok.kind hk hn hm fin) hd
  · rcases hk with hk | hk
    · exact wpAny_Name (wpAny_loadName_cell I.ok.kind hk hc hcell fin) hd
    · exact wpAny_Name (wpAny_loadName_free I.ok.kind hk hc hcell fin hcd) hd
theorem pe_int {i j pos} : PE X (.Constant (.int i) j pos) (tC (.int i)) := fun _ _ _ H _ I h => wpAny_Constant_int ⟨.int i, H, I.tok _, ⟨_, rfl⟩, h⟩
theorem pe_bl {b j pos} : PE X (.Constant (.bool b) j pos) (tC (.bl b)) := fun _ _ _ H _ I h => Constant_bool ⟨.bl b, H, I, rfl, h⟩
noncomputable def Gl (X : Cx) (x : Str) : Prop := X.env.kindOf x = some .globalImplicit
theorem ld_glob {E : Value → Shared → Prop} {pins : List (Addr × Obj)} {s : Shared} {σ : St} {H : Hp} {x : Str} {u : Value} {pos : Pos} {Q : Value → Shared → Prop} (I : Inv X pins σ H s) (hg : Gl X x) (hm : X.mg x = some u) (h : Q u s)
    (hd : (x == ("__debug__" : Str)) = false := by decide) : wpAny (model X.prog X.w) X.A (eval (.Name x pos) X.env) Q E s :=
  Calls.Name_function_global I.ok.kind hg (Calls.loadGlobal_global (by rw [I.ok.glob]; exact I.mod.glob.keeps I.bk) hm h) hd
theorem ld_blt {E : Value → Shared → Prop} {pins : List (Addr × Obj)} {s : Shared} {σ : St} {H : Hp} {x : Str} {u : Value} {pos : Pos} {Q : Value → Shared → Prop} (I : Inv X pins σ H s) (hg : Gl X x) (hm : X.mg x = none) (hv : bootBuiltins x = some u) (h : Q u s)
    (hn : x ≠ "__name__" := by decide) (hd : (x == ("__debug__" : Str)) = false := by decide) : wpAny (model X.prog X.w) X.A (eval (.Name x pos) X.env) Q E s := by
  obtain ⟨mb, h1, h2⟩ := I.mod.blt
  exact Calls.Name_function_global I.ok.kind hg (Calls.loadGlobal_builtin (by rw [I.ok.glob]; exact I.mod.glob.keeps I.bk) hm (by rw [I.ok.blt]; exact h1.keeps I.bk) ((h2 x hn).trans hv) h) hd
theorem pe_glob {x : Str} {v : V} {u : Value} {pos : Pos} (hg : Gl X x) (hm : X.mg x = some u) (r : RelV v u) (hd : (x == ("__debug__" : Str)) = false := by decide) : PE X (.Name x pos) (tC v) :=
  fun _ _ _ H _ I h => ld_glob I hg hm ⟨v, H, I, r, h⟩ hd
theorem pe_bltn {x : Str} {v : V} {u : Value} {pos : Pos} (hg : Gl X x) (hm : X.mg x = none) (hv : bootBuiltins x = some u) (r : RelV v u) (hn : x ≠ "__name__" := by decide) (hd : (x == ("__debug__" : Str)) = false := by decide) : PE X (.Name x pos) (tC v) :=
  fun _ _ _ H _ I h => ld_blt I hg hm hv ⟨v, H, I, r, h⟩ hn hd
variable {a b : Expr} {ta tb : TE} {pos : Pos}
noncomputable def PC (X : Cx) (op : CmpOp) (a b : Expr) (t : TE) : Prop :=
  ∀ (pins : List (Addr × Obj)) (s : Shared) (σ : St) (H : Hp) (Q : VK), Inv X pins σ H s → t σ H Q →
    wpAny (model X.prog X.w) X.A (eval a X.env) (fun v s₁ => wpAny (model X.prog X.w) X.A (eval b X.env) (fun u s₂ => wpAny (model X.prog X.w) X.A (compareOp op v u) (EP X pins σ Q) X.xe s₂) X.xe s₁) X.xe s
noncomputable def tB (t : TE) : TT := fun σ H Q => t σ H fun x H1 => ∃ c, x = .bl c ∧ Q c H1
theorem pt_cmp {op : CmpOp} {t : TE} (h : PC X op a b t) (h1 : behindInMarks op b = false := by first | exact nobehind _ (by decide) (by decide) | rfl) : PT X (.Compare a [op] [b] pos) (tB t) := by
  intro pins s σ H Q I hw
  refine wpAny_isTrue_Compare1 (thn (h pins s σ H _ I hw) fun v s1 h1 => thn h1 fun u s2 h2 => thn h2 fun c s3 ⟨x, H1, I1, r1, q1⟩ => ?_) h1
  obtain ⟨d, rfl, q⟩ := q1
  cases r1
  exact wpAny_truthy_bool ⟨H1, I1, q⟩
theorem pt_val {e : Expr} {t : TE} (h : PE X e t) (he : ∀ whole, isTrue e X.env whole = (do let v ← whole; standAt e.pos; holding [v] (truthy v)) := by intro _; rfl) : PT X e (tB t) := by
  intro pins s σ H Q I hw
  refine isTrue_plain (thn (h pins s σ H _ I hw) fun v s1 ⟨x, H1, I1, r1, q1⟩ => ?_) (he _)
  obtain ⟨d, rfl, q⟩ := q1
  cases r1
  exact wpAny_truthy_bool ⟨H1, I1, q⟩
variable {tA tB' : TT} {rest : List Expr}
noncomputable def tAnd (t u : TT) : TT := fun σ H Q => t σ H fun c H1 => if c = true then u σ H1 Q else Q false H1
noncomputable def tOr (t u : TT) : TT := fun σ H Q => t σ H fun c H1 => if c = true then Q true H1 else u σ H1 Q
noncomputable def tNot (t : TT) : TT := fun σ H Q => t σ H fun c H1 => Q (!c) H1
theorem pw_and1 (ha : PT X a tA) : PW X (.BoolOp .And [a] pos) tA := by
  intro wh pins s σ H Q I h
  refine isTrue_and (thn (ha pins s σ H Q I h) fun c s1 e => ?_)
  cases c with
  | true => exact isTrue_and_nil e
  | false => exact e
theorem pw_or1 (ha : PT X a tA) : PW X (.BoolOp .Or [a] pos) tA := by
  intro wh pins s σ H Q I h
  refine isTrue_or (thn (ha pins s σ H Q I h) fun c s1 e => ?_)
  cases c with
  | false => exact isTrue_or_nil e
  | true => exact e
theorem pw_and (ha : PT X a tA) (hb : PW X (.BoolOp .And (b :: rest) pos) tB') : PW X (.BoolOp .And (a :: b :: rest) pos) (tAnd tA tB') := by
  intro wh pins s σ H Q I h
  refine isTrue_and (thn (ha pins s σ H _ I h) fun c s1 ⟨H1, I1, q1⟩ => ?_)
  cases c with
  | true => exact hb wh pins s1 σ H1 Q I1 q1
  | false => exact ⟨H1, I1, q1⟩
theorem pw_or (ha : PT X a tA) (hb : PW X (.BoolOp .Or (b :: rest) pos) tB') : PW X (.BoolOp .Or (a :: b :: rest) pos) (tOr tA tB') := by
  intro wh pins s σ H Q I h
  refine isTrue_or (thn (ha pins s σ H _ I h) fun c s1 ⟨H1, I1, q1⟩ => ?_)
  cases c with
  | true => exact ⟨H1, I1, q1⟩
  | false => exact hb wh pins s1 σ H1 Q I1 q1
theorem pt_not (ha : PT X a tA) : PT X (.UnaryOp .Not a pos) (tNot tA) := by
  intro pins s σ H Q I h
  exact isTrue_not (ha pins s σ H (fun c H1 => Q (!c) H1) I h)
noncomputable def tAndV (ta tb : TE) : TE := fun σ H Q => ta σ H fun x H1 => ∃ c, x = .bl c ∧ if c = true then tb σ H1 Q else Q (.bl false) H1
theorem pe_one {op} {t : TE} (h : PE X a t) : PE X (.BoolOp op [a] pos) t := fun pins s σ H Q I hw => BoolOp_one (h pins s σ H Q I hw)
theorem pe_and (ha : PE X a ta) (hb : PE X (.BoolOp .And (b :: rest) pos) tb) : PE X (.BoolOp .And (a :: b :: rest) pos) (tAndV ta tb) := by
  intro pins s σ H Q I h
  refine BoolOp_and (thn (ha pins s σ H _ I h) fun v s1 ⟨x, H1, I1, r1, q1⟩ => ?_)
  obtain ⟨c, rfl, q1⟩ := q1
  cases r1
  refine wpAny_truthy_bool ?_
  cases c with
  | true => exact hb pins s1 σ H1 Q I1 q1
  | false => exact ⟨.bl false, H1, I1, rfl, q1⟩
end
end L2
namespace L2
open PySem PySem.Spec PyProof.Rows
noncomputable def SqL (K : PySem.W.Frag) (H : Hp) (a : Addr) (xs : List V) : Prop :=
  Rd H a (.lst xs) ∨
    ∃ (o : Obj) (its : Array Value) (n : Nat), K.lookup a = some o ∧ o.cls = .type "list" ∧ o.dict = none ∧ o.data = .seq its n ∧ its.size ≤ sizeLine ∧ Vals xs its.toList
noncomputable def SqT (K : PySem.W.Frag) (H : Hp) (a : Addr) (xs : List V) : Prop :=
  Rd H a (.tup xs) ∨
    ∃ (o : Obj) (its : Array Value) (n : Nat), K.lookup a = some o ∧ o.cls = .type "tuple" ∧ o.data = .seq its n ∧ its.size ≤ sizeLine ∧ Vals xs its.toList
noncomputable def absV : Value → Option V
  | .none => some .non
  | .bool b => some (.bl b)
  | .int i _ => some (.int i)
  | .str x _ => some (.str x)
  | .bytes b _ => some (.byt b)
  | .float b _ => some (.flt b)
  | .ref a => some (.ref a)
  | .type n => some (.ty n)
  | _ => none
theorem RelV.abs {x : V} {u : Value} (r : RelV x u) : absV u = some x := by
  cases x with
  | non => cases r; rfl
  | bl _ => cases r; rfl
  | int _ => obtain ⟨t, rfl⟩ := r; rfl
  | str _ => obtain ⟨t, rfl⟩ := r; rfl
  | byt _ => obtain ⟨t, rfl⟩ := r; rfl
  | flt _ => obtain ⟨t, rfl⟩ := r; rfl
  | ref _ => cases r; rfl
  | ty _ => cases r; rfl
theorem RelV.inj {x y : V} {u : Value} (r : RelV x u) (q : RelV y u) : x = y := Option.some.inj (r.abs.symm.trans q.abs)
theorem Vals.inj : ∀ {xs ys : List V} {us : List Value}, Vals xs us → Vals ys us → xs = ys
  | _, _, _, .nil, .nil => rfl
  | _, _, _, .cons r t, .cons r' t' => by rw [r.inj r', Vals.inj t t']
section
variable {X : Cx} {pins : List (Addr × Obj)} {σ : St} {H : Hp} {s : Shared} {a : Addr} {xs ys : List V}
theorem SqL.of {K : PySem.W.Frag} (h : H a = some (.lst xs)) : SqL K H a xs := .inl (.inl h)
theorem SqT.of {K : PySem.W.Frag} (h : H a = some (.tup xs)) : SqT K H a xs := .inl (.inl h)
theorem Inv.list (I : Inv X pins σ H s) (h : SqL X.K H a xs) : ∃ its : List Value, Vals xs its ∧ PlainL s.heap a its.toArray ∧ xs.length ≤ sizeLine := by
  rcases h with h | ⟨o, its, n, hk, hc, hd, hs, hz, r⟩
  · obtain ⟨z, its, n, r, e⟩ := h.ok I.hok
    exact ⟨its, r, ⟨_, n, e, rfl, rfl, rfl⟩, z⟩
  · refine ⟨its.toList, r, ⟨o, n, I.kIn a o hk, hc, hd, by simpa using hs⟩, ?_⟩
    have e := r.length
    simp only [Array.length_toList] at e
    omega
theorem Inv.tuple (I : Inv X pins σ H s) (h : SqT X.K H a xs) : ∃ its : List Value, Vals xs its ∧ IsTup s.heap a its.toArray ∧ xs.length ≤ sizeLine := by
  rcases h with h | ⟨o, its, n, hk, hc, hs, hz, r⟩
  · obtain ⟨z, its, r, p⟩ := h.ok I.hok
    exact ⟨its, r, p, z⟩
  · refine ⟨its.toList, r, ⟨o, I.kIn a o hk, hc, n, by simpa using hs⟩, ?_⟩
    have e := r.length
    simp only [Array.length_toList] at e
    omega
theorem Inv.list_inj (I : Inv X pins σ H s) (h : SqL X.K H a xs) (h' : SqL X.K H a ys) : xs = ys := by
  obtain ⟨its, r, ⟨o, n, e, _, _, d⟩, _⟩ := I.list h
  obtain ⟨its', r', ⟨o', n', e', _, _, d'⟩, _⟩ := I.list h'
  rw [e] at e'; cases e'
  rw [d] at d'
  injection d' with d1 _
  have : its = its' := by simpa using congrArg Array.toList d1
  subst this
  exact r.inj r'
theorem Inv.tuple_inj (I : Inv X pins σ H s) (h : SqT X.K H a xs) (h' : SqT X.K H a ys) : xs = ys := by
  obtain ⟨its, r, ⟨o, e, _, n, d⟩, _⟩ := I.tuple h
  obtain ⟨its', r', ⟨o', e', _, n', d'⟩, _⟩ := I.tuple h'
  rw [e] at e'; cases e'
  rw [d] at d'
  injection d' with d1 _
  have : its = its' := by simpa using congrArg Array.toList d1
  subst this
  exact r.inj r'
end
noncomputable abbrev Cx.wish (X : Cx) (E : Value → Shared → Prop) : Cx := { X with xe := E }
noncomputable abbrev Cx.nox (X : Cx) : Cx := X.wish fun _ _ => False
theorem Cx.Ok.wish {X : Cx} (ok : X.Ok) (E : Value → Shared → Prop) : (X.wish E).Ok :=
  ⟨ok.mod, ok.kind, ok.glob, ok.blt, ok.above, ok.inj, ok.has, ok.cab, ok.hd, ok.frames, ok.stk, ok.exf, ok.bs, ok.bsz, ok.noex, ok.exfs, ok.funs, ok.frf⟩
theorem Cx.Ok.unwish {X : Cx} {E : Value → Shared → Prop} (ok : (X.wish E).Ok) : X.Ok :=
  ⟨ok.mod, ok.kind, ok.glob, ok.blt, ok.above, ok.inj, ok.has, ok.cab, ok.hd, ok.frames, ok.stk, ok.exf, ok.bs, ok.bsz, ok.noex, ok.exfs, ok.funs, ok.frf⟩
section
variable {X : Cx} {pins : List (Addr × Obj)} {σ : St} {H : Hp} {s : Shared} {E : Value → Shared → Prop}
theorem Inv.wish (I : Inv X pins σ H s) (E : Value → Shared → Prop) : Inv (X.wish E) pins σ H s := ⟨I.ok.wish E, I.os, I.bare, I.base, I.loc, I.cell, I.free, I.freeC, I.pin, I.hok, I.len⟩
theorem Inv.unwish (I : Inv (X.wish E) pins σ H s) : Inv X pins σ H s := ⟨I.ok.unwish, I.os, I.bare, I.base, I.loc, I.cell, I.free, I.freeC, I.pin, I.hok, I.len⟩
theorem SP.unwish {D : Ends} {f : Flow} {s' : Shared} (h : SP (X.wish E) pins D f s') : SP X pins D f s' := by
  cases f with
  | next => obtain ⟨σ', H', I, q⟩ := h; exact ⟨σ', H', I.unwish, q⟩
  | brk => obtain ⟨σ', H', I, q⟩ := h; exact ⟨σ', H', I.unwish, q⟩
  | cont => obtain ⟨σ', H', I, q⟩ := h; exact ⟨σ', H', I.unwish, q⟩
  | ret u => obtain ⟨v, σ', H', I, r, q⟩ := h; exact ⟨v, σ', H', I.unwish, r, q⟩
theorem PSs.nox {st : List Stmt} {t : TS} (h : PSs X.nox st t) : PSs X st t := fun pins s σ H D I hw =>
  wpAny_mono (h pins s σ H D (I.wish _) hw) (fun _ _ q => q.unwish) fun _ _ z => False.elim z
end
section
variable {X : Cx} {st : Stmt} {rest : List Stmt} {t u : TS} {e : Expr} {te : TE} {pos : Pos}
noncomputable def tNext : TS := fun D σ H => D.nx σ H
noncomputable def tSeq (t u : TS) : TS := fun D σ H => t { D with nx := u D } σ H
theorem pss_nil : PSs X [] tNext := fun _ _ σ H _ I h => wpAny_execs_nil ⟨σ, H, I, h⟩
theorem pss_cons (h1 : PS X st t) (h2 : PSs X rest u) : PSs X (st :: rest) (tSeq t u) := by
  intro pins s σ H D I h
  refine wpAny_execs_cons (thn (h1 pins s σ H { D with nx := u D } I h) fun f s1 q => ?_)
  cases f with
  | next =>
    obtain ⟨σ', H', I', q⟩ := q
    exact h2 pins s1 σ' H' D I' q
  | ret v => exact q
  | brk => exact q
  | cont => exact q
theorem pss_one (h1 : PS X st t) : PSs X [st] t := by
  intro pins s σ H D I h
  refine wpAny_execs_cons (thn (h1 pins s σ H D I h) fun f s1 q => ?_)
  cases f with
  | next => exact wpAny_execs_nil q
  | ret v => exact q
  | brk => exact q
  | cont => exact q
theorem Inv.quiet {pins : List (Addr × Obj)} {σ : St} {H : Hp} {s : Shared} (I : Inv X pins σ H s) : interactive X.env = false := by simp [interactive, I.ok.kind]
noncomputable def tDrop (te : TE) : TS := fun D σ H => te σ H fun _ H1 => D.nx σ H1
theorem ps_expr (he : PE X e te) (hs : swapsWith e none pos.line X.env = pure false := by rfl) : PS X (.Expr e pos) (tDrop te) := by
  intro pins s σ H D I h
  exact wpAny_Expr_any (thn (he pins s σ H _ I h) fun v s1 ⟨x, H1, I1, r1, q1⟩ => ⟨σ, H1, I1, q1⟩) I.quiet hs
noncomputable def tRet (te : TE) : TS := fun D σ H => te σ H D.rt
theorem ps_ret (he : PE X e te) : PS X (.Return (some e) pos) (tRet te) := by
  intro pins s σ H D I h
  exact wpAny_Return_some (thn (he pins s σ H _ I h) fun v s1 ⟨x, H1, I1, r1, q1⟩ => ⟨x, σ, H1, I1, r1, q1⟩)
noncomputable def tIfS (c : TT) (t u : TS) : TS := fun D σ H => c σ H fun b H1 => if b = true then t D σ H1 else u D σ H1
theorem ps_if {c : Expr} {a b : List Stmt} {tc : TT} (hc : PT X c tc) (ha : PSs X a t) (hb : PSs X b u) : PS X (.If c a b pos) (tIfS tc t u) := by
  intro pins s σ H D I h
  refine wpAny_If (thn (hc pins s σ H _ I h) fun d s1 ⟨H1, I1, q1⟩ => ?_)
  cases d with
  | true => exact ha pins s1 σ H1 D I1 q1
  | false => exact hb pins s1 σ H1 D I1 q1
end
noncomputable abbrev TG := V → St → Hp → (St → Hp → Prop) → Prop
noncomputable abbrev TGs := List V → St → Hp → (St → Hp → Prop) → Prop
noncomputable def PG (X : Cx) (target : Expr) (t : TG) : Prop :=
  ∀ (pins : List (Addr × Obj)) (s : Shared) (σ : St) (H : Hp) (v : V) (u : Value) (Q : St → Hp → Prop), Inv X pins σ H s → RelV v u → t v σ H Q →
    wpAny (model X.prog X.w) X.A (assign target X.env u) (fun _ s' => ∃ σ' H', Inv X pins σ' H' s' ∧ Q σ' H') X.xe s
noncomputable def PGs (X : Cx) (ts : List Expr) (t : TGs) : Prop :=
  ∀ (pins : List (Addr × Obj)) (s : Shared) (σ : St) (H : Hp) (vs : List V) (us : List Value) (Q : St → Hp → Prop), Inv X pins σ H s → Vals vs us → t vs σ H Q →
    wpAny (model X.prog X.w) X.A (assignInOrder ((assignEach ts X.env).map (·.2)) us) (fun _ s' => ∃ σ' H', Inv X pins σ' H' s' ∧ Q σ' H') X.xe s
noncomputable abbrev TSet := V → V → V → Hp → (Hp → Prop) → Prop
noncomputable def PSet (X : Cx) (t : TSet) : Prop :=
  ∀ (pins : List (Addr × Obj)) (s : Shared) (σ : St) (H : Hp) (o i v : V) (ov iv u : Value) (Q : Hp → Prop), Inv X pins σ H s → RelV o ov → RelV i iv → RelV v u → t o i v H Q →
    wpAny (model X.prog X.w) X.A (setItem ov iv u) (fun _ s' => ∃ H', Inv X pins σ H' s' ∧ Q H') X.xe s
section
variable {X : Cx} {pos : Pos}
noncomputable def gName (i : Nat) : TG := fun v σ H Q => Q (σ.set i (some v)) H
theorem pg_name {i : Nat} {x : Str} (hN : X.N.Nodup) (hi : X.N[i]? = some x) (hx : Loc X.env.scope x) (hf : X.fn x = true ∨ X.env.scope.names.lookup x = some .local := by first | exact .inl rfl | exact .inr rfl | assumption) : PG X (.Name x pos) (gName i) := by
  intro pins s σ H v u Q I r h
  exact wpAny_assign_Name (store_ok I hN hi hx r (fun s' I' => ⟨_, H, I', h⟩) hf)
noncomputable def gNil : TGs := fun vs σ H Q => vs = [] ∧ Q σ H
noncomputable def gCons (t : TG) (u : TGs) : TGs := fun vs σ H Q => ∃ v r, vs = v :: r ∧ t v σ H fun σ' H' => u r σ' H' Q
theorem pgs_nil : PGs X [] gNil := by
  intro pins s σ H vs us Q I r h
  obtain ⟨e, h⟩ := h
  subst e
  cases r
  exact assignInOrder_nil ⟨σ, H, I, h⟩
theorem pgs_cons {e : Expr} {es : List Expr} {t : TG} {u : TGs} (h1 : PG X e t) (h2 : PGs X es u)
    (hs : (assignEach (e :: es) X.env).map (·.2) = assign e X.env :: (assignEach es X.env).map (·.2) := by rfl) : PGs X (e :: es) (gCons t u) := by
  intro pins s σ H vs us Q I r h
  obtain ⟨v, vr, e1, h⟩ := h
  subst e1
  cases r with
  | cons r rr =>
    rw [hs]
    refine assignInOrder_cons (thn (h1 pins s σ H _ _ _ I r h) fun _ s1 ⟨σ1, H1, I1, q1⟩ => ?_)
    exact h2 pins s1 σ1 H1 _ _ Q I1 rr q1
noncomputable def gTup (K : PySem.W.Frag) (n : Nat) (t : TGs) : TG := fun v σ H Q => ∃ a xs, v = .ref a ∧ SqT K H a xs ∧ xs.length = n ∧ t xs σ H Q
theorem pg_tup {es : List Expr} {k : Nat} {t : TGs} {n : Nat} (hc : X.calm = true) (h : PGs X es t)
    (hn : (assignEach es X.env).length = n := by rfl) (hst : (assignEach es X.env).findIdx? (·.1) = none := by rfl) : PG X (.Tuple es k pos) (gTup X.K n t) := by
  intro pins s σ H v u Q I r hw
  obtain ⟨a, xs, e1, hq, hl, hw⟩ := hw
  subst e1
  cases r
  obtain ⟨its, rv, ht, hz⟩ := I.tuple hq
  refine assign_Tuple_tuple (I.ok.hd hc) ht (by simp [hn, ← hl, rv.length]) hst fun h' hx => ?_
  have I1 : Inv X pins σ H { s with heap := h' } := I.kept (t' := s.toks) fun b o e => hx b o (Nat.ne_of_lt (Heap.lt_size e)) e
  exact h pins _ σ H xs _ Q I1 (by simpa using rv) hw
noncomputable def gSub (to ti : TE) (t : TSet) : TG := fun v σ H Q => to σ H fun o H1 => ti σ H1 fun i H2 => t o i v H2 fun H3 => Q σ H3
theorem pg_sub {o i : Expr} {to ti : TE} {t : TSet} (ho : PE X o to) (hi : PE X i ti) (hs : PSet X t)
    (ha : ∀ v, assign (.Subscript o i pos) X.env v = (do
      let ov ← holding [v] (eval o X.env)
      let iv ← holding [v, ov] (eval i X.env)
      standAt pos
      holding [v, ov, iv] (setItem ov iv v)
      release [v, ov, iv] []) := by intro _; rfl) : PG X (.Subscript o i pos) (gSub to ti t) := by
  intro pins s σ H v u Q I r h
  rw [ha]
  refine wpAny_bind (wpAny_holding (thn (ho pins s σ H _ I h) fun ov s1 ⟨x, H1, I1, r1, q1⟩ => ?_))
  refine wpAny_bind (wpAny_holding (thn (hi pins s1 σ H1 _ I1 q1) fun iv s2 ⟨y, H2, I2, r2, q2⟩ => ?_))
  refine wpAny_bind (wpAny_standAt (wpAny_bind (wpAny_holding (thn (hs pins s2 σ H2 x y v ov iv u _ I2 r1 r2 r q2) fun _ s3 ⟨H3, I3, q3⟩ => ?_))))
  exact wpAny_release ⟨σ, H3, I3, q3⟩
noncomputable def tAsg (te : TE) (g : TG) : TS := fun D σ H => te σ H fun x H1 => g x σ H1 D.nx
theorem ps_asg {tg e : Expr} {te : TE} {g : TG} (he : PE X e te) (hg : PG X tg g) (hs : swapsWithSole [tg] e pos.line X.env = pure false := by rfl) (hw : swappedStores [tg] e X.env = pure none := by rfl)
    (h1 : (assignEach [tg] X.env).map (·.2) = [assign tg X.env] := by rfl) : PS X (.Assign [tg] e pos) (tAsg te g) := by
  intro pins s σ H D I h
  refine wpAny_Assign_stores (thn (he pins s σ H _ I h) fun v s1 ⟨x, H1, I1, r1, q1⟩ => ?_) hs hw
  rw [h1]
  exact thn (hg pins s1 σ H1 x v _ I1 r1 q1) fun _ s2 q => q
theorem ps_set {i : Nat} {x : Str} {e : Expr} {te : TE} {pos' : Pos} (hN : X.N.Nodup) (hi : X.N[i]? = some x) (hx : Loc X.env.scope x) (he : PE X e te) (hs : swapsWith e (some (.Name x pos')) pos.line X.env = pure false := by rfl) (hf : X.fn x = true ∨ X.env.scope.names.lookup x = some .local := by first | exact .inl rfl | exact .inr rfl | assumption) :
    PS X (.Assign [.Name x pos'] e pos) (tAsg te (gName i)) := by
  intro pins s σ H D I h
  refine wpAny_Assign_Name (thn (he pins s σ H _ I h) fun v s1 ⟨y, H1, I1, r1, q1⟩ => ?_) hs
  exact store_ok I1 hN hi hx r1 (fun s2 I2 => ⟨_, H1, I2, q1⟩) hf
noncomputable def tPar (i j : Nat) (ta : TA) : TS := fun D σ H => ta σ H fun vs H1 => ∃ v w, vs = [v, w] ∧ D.nx ((σ.set i (some v)).set j (some w)) H1
theorem ps_par {i j : Nat} {x y : Str} {a b : Expr} {ta : TA} {px py pt : Pos} {kt k2 pt2} (hc : X.calm = true) (hN : X.N.Nodup) (hi : X.N[i]? = some x) (hj : X.N[j]? = some y) (hij : i ≠ j)
    (hx : X.env.scope.names.lookup x = some .local) (hy : X.env.scope.names.lookup y = some .local) (ha : PA X [a, b] ta)
    (hw : swappedStores [.Tuple [.Name x px, .Name y py] kt pt] (.Tuple [a, b] k2 pt2) X.env = pure (some [x, y]))
    (hs : swapsWithSole [.Tuple [.Name x px, .Name y py] kt pt] (.Tuple [a, b] k2 pt2) pos.line X.env = pure false := by rfl) :
    PS X (.Assign [.Tuple [.Name x px, .Name y py] kt pt] (.Tuple [a, b] k2 pt2) pos) (tPar i j ta) := by
  intro pins s σ H D I h
  rw [exec_Assign_arm]
  refine wpAny_bind (wpAny_standAt ?_)
  rw [hs]
  refine wpAny_bind (wpAny_pure ?_)
  rw [if_neg (by decide)]
  refine wpAny_bind (Tuple_ (thn (ha _ pins s σ H _ I h) fun us s1 ⟨vs, H1, I1, r1, q1⟩ => ?_))
  obtain ⟨v, w, e1, q1⟩ := q1
  subst e1
  obtain ⟨u1, u2, rfl, rv, rw'⟩ : ∃ u1 u2, us = [u1, u2] ∧ RelV v u1 ∧ RelV w u2 := by
    cases r1 with
    | cons p q =>
      cases q with
      | cons p' q' =>
        cases q'
        exact ⟨_, _, rfl, p, p'⟩
  refine wpAny_newObj_type ?_ (by show 2 ≤ sizeLine; decide)
  have I2 : Inv X pins σ H1 { s1 with heap := s1.heap.push { cls := .type "tuple", data := .seq [u1, u2].toArray } } := I1.kept (t' := s1.toks) fun b o e => Heap.get?_push_of_some _ e
  rw [hw]
  refine wpAny_bind (wpAny_pure ?_)
  show wpAny (model X.prog X.w) X.A (do rule "assign.swapped-stores"; let items ← unpackItems (.ref s1.heap.objs.size) 2 none; assignInOrder [fun v => bindName X.env y v, fun v => bindName X.env x v] items.reverse; pure Flow.next) _ _ _
  refine wpAny_bind (wpAny_rule (wpAny_bind (unpackItems_tuple (items := #[u1, u2]) (I.ok.hd hc) (IsTup.new s1.heap _) fun h' hx' => ?_)))
  have I3 := I2.kept (h' := h') (t' := s1.toks) fun b o e => hx' b o (Nat.ne_of_lt (Heap.lt_size e)) e
  show wpAny _ _ (assignInOrder [fun v => bindName X.env y v, fun v => bindName X.env x v] [u2, u1] >>= fun _ => pure Flow.next) _ _ _
  refine wpAny_bind (assignInOrder_cons (wpAny_bindName (store_ok I3 hN hj (.inl hy) rw' (fun s2 I4 => ?_) (.inr hy))))
  refine assignInOrder_cons (wpAny_bindName (store_ok I4 hN hi (.inl hx) rv (fun s3 I5 => assignInOrder_nil (wpAny_pure ?_)) (.inr hx)))
  rw [List.set_comm _ _ (Ne.symm hij)] at I5
  exact ⟨_, H1, I5, q1⟩
end
section
variable {X : Cx} {pos : Pos}
noncomputable def tWhile (c : TT) (tb : TS) : TS := fun D σ H => ∃ W : Nat → St → Hp → Prop, (∃ m, W m σ H) ∧ ∀ m σ H, W m σ H →
  c σ H fun b H1 => if b = true then ∃ N : St → Hp → Prop, (∀ σ' H', N σ' H' → ∃ m', m' < m ∧ W m' σ' H') ∧ tb { D with nx := N, ct := N, bk := D.nx } σ H1 else D.nx σ H1
theorem ps_while {c : Expr} {body : List Stmt} {tc : TT} {tb : TS} (hp : PassesOwn (model X.prog X.w) X.A X.env X.xe) (hc : PT X c tc) (hb : PSs X body tb) : PS X (.While c body [] pos) (tWhile tc tb) := by
  intro pins s σ H D I h
  obtain ⟨W, ⟨m0, w0⟩, turn⟩ := h
  refine wpAny_While (codeAny_whileLoop (fun n s' => ∃ σ' H', Inv X pins σ' H' s' ∧ W n σ' H') ?_ m0 ⟨σ, H, I, w0⟩)
  rintro n s1 ⟨σ1, H1, I1, w1⟩
  refine wpAny_passesOwn hp (thn (hc pins s1 σ1 H1 _ I1 (turn n σ1 H1 w1)) fun b s2 ⟨H2, I2, q2⟩ => ?_)
  cases b with
  | true =>
    obtain ⟨N, hN, q2⟩ := q2
    rw [if_pos rfl]
    refine wpAny_passesOwn hp (thn (hb pins s2 σ1 H2 _ I2 q2) fun f s3 q3 => ?_)
    cases f with
    | next =>
      obtain ⟨σ3, H3, I3, n3⟩ := q3
      obtain ⟨m', hm, w3⟩ := hN σ3 H3 n3
      exact ⟨m', hm, σ3, H3, I3, w3⟩
    | cont =>
      obtain ⟨σ3, H3, I3, n3⟩ := q3
      obtain ⟨m', hm, w3⟩ := hN σ3 H3 n3
      exact ⟨m', hm, σ3, H3, I3, w3⟩
    | brk => exact q3
    | ret v => exact q3
  | false =>
    rw [if_neg Bool.false_ne_true]
    exact wpAny_execs_nil ⟨σ1, H2, I2, q2⟩
end
structure It where
  go : Nat → Hp → Prop
  yld : Nat → Hp → V → Hp → Prop
  stop : Nat → Hp → Prop
noncomputable def FpOk (X : Cx) (pins : List (Addr × Obj)) (H : Hp) (b : Addr) : Prop :=
  H b = none ∧ b ≠ X.env.locals ∧ b ∉ X.fs ∧ (b ∈ X.ex ∨ X.s₀.heap.objs.size ≤ b) ∧ (∀ x c, X.env.cells.lookup x = some c → c ≠ b) ∧ ∀ p ∈ X.pn ++ pins, p.1 ≠ b
theorem Inv.fpOk {X : Cx} {pins : List (Addr × Obj)} {σ : St} {H H' : Hp} {s : Shared} {b : Addr} (I : Inv X pins σ H s) (hb : s.heap.objs.size ≤ b) (hn : H' b = none) : FpOk X pins H' b := by
  refine ⟨hn, Nat.ne_of_gt (Nat.lt_of_lt_of_le I.lt hb), I.nofs hb, .inr (Nat.le_trans I.sz hb), fun x c e z => ?_, fun p hp z => ?_⟩
  · obtain ⟨v, q⟩ := I.cell x c e
    exact absurd (Nat.lt_of_lt_of_le q.lt (by rw [z]; exact hb)) (Nat.lt_irrefl _)
  · exact absurd (Nat.lt_of_lt_of_le (Heap.lt_size (I.pin p hp).1) (by rw [z]; exact hb)) (Nat.lt_irrefl _)
structure Turn (P : Program) (w : World) (K : PySem.W.Frag) (tg : Expr) (J : It) (fp : List Addr) (it : Addr) (tn : Nat → Heap → Prop) : Prop where
  mem : it ∈ fp
  obj : ∀ i h, tn i h → ∀ b ∈ fp, ∃ o, h.get? b = some o ∧ ∀ v, o.data ≠ .cell v
  keep : ∀ i h h', tn i h → (∀ b ∈ fp, ∀ o, h.get? b = some o → h'.get? b = some o) → tn i h'
  item : ∀ (X : Cx), X.prog = P → X.w = w → X.K = K → X.calm = true → ∀ (i : Nat) (pins : List (Addr × Obj)) (s : Shared) (σ : St) (H : Hp) (E : Value → Shared → Prop), Inv X pins σ H s → (∀ b ∈ fp, FpOk X pins H b) → tn i s.heap → J.go i H →
    wpAny (model P w) X.A (pyNext (.ref it)) (fun r s1 => ∃ u, r = some u ∧
      wpAny (model P w) X.A (letOwnedTupleGo tg (.ref it) u) (fun _ s2 => ∃ x H', Inv X pins σ H' s2 ∧ RelV x u ∧ J.yld i H x H' ∧ tn (i + 1) s2.heap ∧ ∀ b ∈ fp, H' b = none) E s1) E s
  done : ∀ (X : Cx), X.prog = P → X.w = w → X.K = K → X.calm = true → ∀ (i : Nat) (pins : List (Addr × Obj)) (s : Shared) (σ : St) (H : Hp) (E : Value → Shared → Prop), Inv X pins σ H s → (∀ b ∈ fp, FpOk X pins H b) → tn i s.heap → J.stop i H →
    wpAny (model P w) X.A (pyNext (.ref it)) (fun r s1 => r = none ∧ Inv X pins σ H s1) E s
  self : ∀ (A : Around) (i : Nat) (s : Shared) (Q : Value → Shared → Prop) (E : Value → Shared → Prop), tn i s.heap → Q (.ref it) s → wpAny (model P w) A (pyIter (.ref it)) Q E s
noncomputable abbrev TI := St → Hp → (It → Hp → Prop) → Prop
noncomputable def PIE (X : Cx) (pins : List (Addr × Obj)) (σ : St) (tg : Expr) (R : It → Hp → Prop) (itv : Value) (s2 : Shared) : Prop :=
  ∃ (it : Addr) (fp : List Addr) (tn : Nat → Heap → Prop) (J : It) (H' : Hp), itv = .ref it ∧ Inv X pins σ H' s2 ∧ Turn X.prog X.w X.K tg J fp it tn ∧ tn 0 s2.heap ∧ (∀ b ∈ fp, FpOk X pins H' b) ∧ R J H'
noncomputable def PI (X : Cx) (tg iter : Expr) (wi : TI) : Prop :=
  ∀ (pins : List (Addr × Obj)) (s : Shared) (σ : St) (H : Hp) (R : It → Hp → Prop), Inv X pins σ H s → wi σ H R →
    wpAny (model X.prog X.w) X.A (eval iter X.env) (fun v s1 => wpAny (model X.prog X.w) X.A (pyIter v) (PIE X pins σ tg R) X.xe s1) X.xe s
theorem go_of {M : Model} {A : Around} {E : Value → Shared → Prop} {s : Shared} {tg : Expr} {it : Addr} {u : Value} {o : Obj} {n : String} {vs : Array Value} {Q : Unit → Shared → Prop} (ho : s.heap.get? it = some o) (hc : o.cls = .type n) (hd : o.data = .fields vs)
    (hn : ["enumerate", "zip", "dict_itemiterator", "dict_reverseitemiterator", "odict_iterator", "itertools.zip_longest", "itertools.pairwise"].contains n = false) (hQ : Q () s) : wpAny M A (letOwnedTupleGo tg (.ref it) u) Q E s := by
  unfold letOwnedTupleGo
  cases tg <;> first
    | exact wpAny_pure hQ
    | (cases u <;> first
        | exact wpAny_pure hQ
        | (refine wpAny_bind (wpAny_load ho ?_)
           rw [hc, hd]
           show wpAny M A (if (["enumerate", "zip", "dict_itemiterator", "dict_reverseitemiterator", "odict_iterator", "itertools.zip_longest", "itertools.pairwise"].contains n && vs[0]? == some (rawInt _)) = true then _ else _) Q E s
           rw [if_neg (by intro h; rw [hn, Bool.false_and] at h; cases h)]
           exact wpAny_pure hQ))
noncomputable def Itl (K : PySem.W.Frag) (a : Addr) : It :=
  ⟨fun i H => ∃ xs x, SqL K H a xs ∧ xs[i]? = some x, fun i H x H' => H' = H ∧ ∀ xs, SqL K H a xs → xs[i]? = some x, fun i H => ∃ xs, SqL K H a xs ∧ xs.length ≤ i⟩
noncomputable def Itt (K : PySem.W.Frag) (a : Addr) : It :=
  ⟨fun i H => ∃ xs x, SqT K H a xs ∧ xs[i]? = some x, fun i H x H' => H' = H ∧ ∀ xs, SqT K H a xs → xs[i]? = some x, fun i H => ∃ xs, SqT K H a xs ∧ xs.length ≤ i⟩
noncomputable def Itr (lo : Int) (n : Nat) : It := ⟨fun i _ => i < n, fun i H x H' => H' = H ∧ x = .int (lo + i), fun i _ => n ≤ i⟩
theorem turn_list {P : Program} {w : World} {K : PySem.W.Frag} {tg : Expr} (a it : Addr) : Turn P w K tg (Itl K a) [it] it (fun i h => h.IsListIter it a i) where
  mem := by simp
  obj := fun i h st b hb => by
    have e : b = it := by simpa using hb
    subst e
    obtain ⟨o, e, c, d⟩ := st
    exact ⟨o, e, fun v z => by rw [d] at z; cases z⟩
  keep := fun i h h' st k => st.at fun o e => k it (by simp) o e
  item := by
    intro X hP hw hK hc i pins s σ H E I hf st hg
    subst hP hw hK
    obtain ⟨xs, x, hq, hx⟩ := hg
    obtain ⟨its, rv, p, hz⟩ := I.list hq
    obtain ⟨u, hu, ru⟩ := rv.get hx
    obtain ⟨f0, f1, f2, f3, f4, f5⟩ := hf it (by simp)
    refine wpAny_pyNext_list_item st p.isList (x := u) (by simpa using hu) fun h' st' sb => ?_
    have I1 : Inv X pins σ H { s with heap := h' } := I.turned (t' := s.toks) (fun b o hb e => (sb.2 b hb).trans e) f0 f1 f3 f4 f5
    obtain ⟨o, e, c, d⟩ := id st'
    exact ⟨u, rfl, go_of (s := { s with heap := h' }) e c d (by decide) ⟨x, H, I1, ru, ⟨rfl, fun ys hy => by rw [I.list_inj hy hq]; exact hx⟩, st', fun b hb => (hf b hb).1⟩⟩
  done := by
    intro X hP hw hK hc i pins s σ H E I hf st hg
    subst hP hw hK
    obtain ⟨xs, hq, hx⟩ := hg
    obtain ⟨its, rv, p, hz⟩ := I.list hq
    obtain ⟨f0, f1, f2, f3, f4, f5⟩ := hf it (by simp)
    have hl := rv.length
    exact wpAny_pyNext_list_end (I.ok.hd hc) st p.isList (by simp; omega) fun h' eb => ⟨rfl, I.turned (t' := s.toks) (fun b o hb e => eb b o hb e) f0 f1 f3 f4 f5⟩
  self := fun _ _ _ _ _ st h => wpAny_pyIter_listiter st h
theorem turn_tuple {P : Program} {w : World} {K : PySem.W.Frag} {tg : Expr} (a it : Addr) : Turn P w K tg (Itt K a) [it] it (fun i h => h.IsTupleIter it a i) where
  mem := by simp
  obj := fun i h st b hb => by
    have e : b = it := by simpa using hb
    subst e
    obtain ⟨o, e, c, d⟩ := st
    exact ⟨o, e, fun v z => by rw [d] at z; cases z⟩
  keep := fun i h h' st k => st.at fun o e => k it (by simp) o e
  item := by
    intro X hP hw hK hc i pins s σ H E I hf st hg
    subst hP hw hK
    obtain ⟨xs, x, hq, hx⟩ := hg
    obtain ⟨its, rv, p, hz⟩ := I.tuple hq
    obtain ⟨u, hu, ru⟩ := rv.get hx
    obtain ⟨f0, f1, f2, f3, f4, f5⟩ := hf it (by simp)
    refine wpAny_pyNext_tuple_item st (show s.heap.IsTuple a its.toArray from p) (x := u) (by simpa using hu) fun h' st' sb => ?_
    have I1 : Inv X pins σ H { s with heap := h' } := I.turned (t' := s.toks) (fun b o hb e => (sb.2 b hb).trans e) f0 f1 f3 f4 f5
    obtain ⟨o, e, c, d⟩ := id st'
    exact ⟨u, rfl, go_of (s := { s with heap := h' }) e c d (by decide) ⟨x, H, I1, ru, ⟨rfl, fun ys hy => by rw [I.tuple_inj hy hq]; exact hx⟩, st', fun b hb => (hf b hb).1⟩⟩
  done := by
    intro X hP hw hK hc i pins s σ H E I hf st hg
    subst hP hw hK
    obtain ⟨xs, hq, hx⟩ := hg
    obtain ⟨its, rv, p, hz⟩ := I.tuple hq
    obtain ⟨f0, f1, f2, f3, f4, f5⟩ := hf it (by simp)
    have hl := rv.length
    exact wpAny_pyNext_tuple_end (I.ok.hd hc) st (show s.heap.IsTuple a its.toArray from p) (by simp; omega) fun h' eb => ⟨rfl, I.turned (t' := s.toks) (fun b o hb e => eb b o hb e) f0 f1 f3 f4 f5⟩
  self := fun _ _ _ _ _ st h => wpAny_pyIter_tupleiter st h
theorem turn_range {P : Program} {w : World} {K : PySem.W.Frag} {tg : Expr} (it : Addr) (lo : Int) (n : Nat) : Turn P w K tg (Itr lo n) [it] it (fun i h => IsRangeIter h it (lo + (i : Nat) * 1) ((n : Int) - (i : Nat)) 1) where
  mem := by simp
  obj := fun i h st b hb => by
    have e : b = it := by simpa using hb
    subst e
    exact ⟨_, st, fun v z => by
      have z' : Data.fields _ = Data.cell v := z
      cases z'⟩
  keep := fun i h h' st k => k it (by simp) _ st
  item := by
    intro X hP hw hK hc i pins s σ H E I hf st hg
    subst hP hw hK
    obtain ⟨f0, f1, f2, f3, f4, f5⟩ := hf it (by simp)
    have W := Walks.range (prog := X.prog) (w := X.w) (I.ok.hd hc) it lo 1 n
    refine W.item i s _ _ hg st fun v h' tk hv st' kk => ?_
    obtain ⟨t, rfl⟩ := hv
    have I1 : Inv X pins σ H { s with heap := h', toks := tk } := I.turned (fun b o hb e => kk b o (by simpa using hb) e) f0 f1 f3 f4 f5
    refine ⟨_, rfl, go_of (s := { s with heap := h', toks := tk }) (n := "range_iterator") st' rfl rfl (by decide) ⟨.int (lo + i), H, I1, ⟨t, ?_⟩, ⟨rfl, rfl⟩, st', fun b hb => (hf b hb).1⟩⟩
    rw [Int.mul_one]
  done := by
    intro X hP hw hK hc i pins s σ H E I hf st hg
    subst hP hw hK
    obtain ⟨f0, f1, f2, f3, f4, f5⟩ := hf it (by simp)
    exact wpAny_pyNext_range_end (I.ok.hd hc) st (by have : n ≤ i := hg; omega) fun h' eb => ⟨rfl, I.turned (t' := s.toks) (fun b o hb e => eb b o hb e) f0 f1 f3 f4 f5⟩
  self := fun _ _ _ _ _ st h => wpAny_pyIter_rangeiter st h
end L2
namespace L2
open PySem PySem.Spec PyProof.Rows
section
variable {X : Cx} {tg : Expr}
noncomputable def iList (K : PySem.W.Frag) (tl : TE) : TI := fun σ H R => tl σ H fun x H1 => ∃ a, x = .ref a ∧ (∃ xs, SqL K H1 a xs) ∧ R (Itl K a) H1
noncomputable def iTup (K : PySem.W.Frag) (tl : TE) : TI := fun σ H R => tl σ H fun x H1 => ∃ a, x = .ref a ∧ (∃ xs, SqT K H1 a xs) ∧ R (Itt K a) H1
theorem pi_list {l : Expr} {tl : TE} (hl : PE X l tl) : PI X tg l (iList X.K tl) := by
  intro pins s σ H R I h
  refine thn (hl pins s σ H _ I h) fun v s1 ⟨x, H1, I1, r1, q1⟩ => ?_
  obtain ⟨a, e, ⟨xs, hq⟩, q⟩ := q1
  subst e
  cases r1
  obtain ⟨its, rv, p, hz⟩ := I1.list hq
  refine wpAny_pyIter_list p.isList ?_
  refine ⟨s1.heap.objs.size, [s1.heap.objs.size], _, _, H1, rfl, I1.kept (t' := s1.toks) fun b o e => Heap.get?_push_of_some _ e, turn_list a _, ⟨_, Heap.get?_push_size _ rfl, rfl, rfl⟩, fun b hb => ?_, q⟩
  have e : b = s1.heap.objs.size := by simpa using hb
  subst e
  exact I1.fpOk (Nat.le_refl _) (I1.hok.fresh (Nat.le_refl _))
theorem pi_tup {l : Expr} {tl : TE} (hl : PE X l tl) : PI X tg l (iTup X.K tl) := by
  intro pins s σ H R I h
  refine thn (hl pins s σ H _ I h) fun v s1 ⟨x, H1, I1, r1, q1⟩ => ?_
  obtain ⟨a, e, ⟨xs, hq⟩, q⟩ := q1
  subst e
  cases r1
  obtain ⟨its, rv, p, hz⟩ := I1.tuple hq
  refine wpAny_pyIter_tuple (show s1.heap.IsTuple a its.toArray from p) ?_
  refine ⟨s1.heap.objs.size, [s1.heap.objs.size], _, _, H1, rfl, I1.kept (t' := s1.toks) fun b o e => Heap.get?_push_of_some _ e, turn_tuple a _, ⟨_, Heap.get?_push_size _ rfl, rfl, rfl⟩, fun b hb => ?_, q⟩
  have e : b = s1.heap.objs.size := by simpa using hb
  subst e
  exact I1.fpOk (Nat.le_refl _) (I1.hok.fresh (Nat.le_refl _))
theorem range_it {pins : List (Addr × Obj)} {σ : St} {H : Hp} {s : Shared} {R : It → Hp → Prop} {E : Value → Shared → Prop} {lo hi : Int} {t u v : Tok} {tk : Nat} (I : Inv X pins σ H s) (h1 : -(2 ^ 62) ≤ lo) (h2 : lo < 2 ^ 62) (h3 : -(2 ^ 62) ≤ hi) (h4 : hi < 2 ^ 62)
    (q : R (Itr lo (hi - lo).toNat) H) : wpAny (model X.prog X.w) X.A (pyIter (.ref s.heap.objs.size)) (PIE X pins σ tg R) E { s with heap := s.heap.push { cls := .type "range", data := .fields #[.int lo t, .int hi u, .int 1 v] }, toks := tk } := by
  refine wpAny_pyIter_range (IsRange.new ..) (small_one h1 h2 h3 h4) ?_
  have I1 : Inv X pins σ H { s with heap := s.heap.push { cls := .type "range", data := .fields #[.int lo t, .int hi u, .int 1 v] }, toks := tk } := I.kept fun b o e => Heap.get?_push_of_some _ e
  refine ⟨(s.heap.push { cls := .type "range", data := .fields #[.int lo t, .int hi u, .int 1 v] }).objs.size, [(s.heap.push { cls := .type "range", data := .fields #[.int lo t, .int hi u, .int 1 v] }).objs.size], _, _, H, rfl,
    I1.kept (t' := tk) fun b o e => Heap.get?_push_of_some _ e, turn_range _ lo (hi - lo).toNat, ?_, fun b hb => ?_, q⟩
  · have e1 : lo + ((0 : Nat) : Int) * 1 = lo := by simp
    have e2 : (((hi - lo).toNat : Nat) : Int) - ((0 : Nat) : Int) = Builtin.Range.rangeSize lo hi 1 := by rw [rangeSize_one]; split <;> omega
    show IsRangeIter _ _ (lo + ((0 : Nat) : Int) * 1) ((((hi - lo).toNat : Nat) : Int) - ((0 : Nat) : Int)) 1
    rw [e1, e2]
    exact Heap.get?_push_size _ rfl
  · have e : b = (s.heap.push { cls := .type "range", data := .fields #[.int lo t, .int hi u, .int 1 v] }).objs.size := by simpa using hb
    subst e
    exact I1.fpOk (Nat.le_refl _) (I1.hok.fresh (Nat.le_refl _))
noncomputable def iRng1 (ta : TA) : TI := fun σ H R => ta σ H fun vs H1 => ∃ j : Int, vs = [.int j] ∧ -(2 ^ 62) ≤ j ∧ j < 2 ^ 62 ∧ R (Itr 0 j.toNat) H1
theorem pi_range1 {a : Expr} {ta : TA} {p pos : Pos} (hg : Gl X "range") (hm : X.mg "range" = none) (ha : PA X [a] ta) (hs : starEach [a] X.env = [(false, eval a X.env)] := by rfl) : PI X tg (.Call (.Name "range" p) [a] [] pos) (iRng1 ta) := by
  intro pins s σ H R I h
  refine Call_ (ld_blt I hg hm boot_range (PyProof.Rows.callWith_type1 (thn (ha pos pins s σ H _ I h) fun us s1 ⟨vs, H1, I1, r1, q1⟩ => ?_) hs rfl))
  obtain ⟨j, e, q1, q2, q⟩ := q1
  subst e
  cases r1 with
  | cons r rr =>
    cases rr
    obtain ⟨t, rfl⟩ := r
    exact call_range_1 (range_it I1 (by omega) (by omega) q1 q2 (by simpa using q))
noncomputable def tFor (wi : TI) (g : TG) (tb : TS) : TS := fun D σ H => wi σ H fun J H1 => ∃ W : Nat → Nat → St → Hp → Prop, (∃ m, W 0 m σ H1) ∧ ∀ i m σ H, W i m σ H →
  (J.stop i H ∧ D.nx σ H) ∨ (J.go i H ∧ ∃ N : St → Hp → Prop, (∀ σ' H', N σ' H' → ∃ m', m' < m ∧ W (i + 1) m' σ' H') ∧ ∀ x H', J.yld i H x H' → g x σ H' fun σ2 H2 => tb { D with nx := N, ct := N, bk := D.nx } σ2 H2)
noncomputable def pinsAt (fp : List Addr) (h : Heap) : List (Addr × Obj) := fp.filterMap fun b => (h.get? b).map fun o => (b, o)
theorem mem_pinsAt {fp : List Addr} {h : Heap} {b : Addr} {o : Obj} (hb : b ∈ fp) (e : h.get? b = some o) : (b, o) ∈ pinsAt fp h := List.mem_filterMap.mpr ⟨b, hb, by rw [e]; rfl⟩
theorem of_pinsAt {fp : List Addr} {h : Heap} {p : Addr × Obj} (hp : p ∈ pinsAt fp h) : p.1 ∈ fp ∧ h.get? p.1 = some p.2 := by
  obtain ⟨b, hb, e⟩ := List.mem_filterMap.mp hp
  cases q : h.get? b with
  | none => rw [q] at e; cases e
  | some o =>
    rw [q] at e
    have e' : (b, o) = p := Option.some.inj e
    subst e'
    exact ⟨hb, q⟩
theorem Inv.pinned {pins : List (Addr × Obj)} {σ : St} {H : Hp} {s : Shared} {fp : List Addr} (I : Inv X pins σ H s) (hf : ∀ b ∈ fp, FpOk X pins H b) (ho : ∀ b ∈ fp, ∃ o, s.heap.get? b = some o ∧ ∀ v, o.data ≠ .cell v) : Inv X (pins ++ pinsAt fp s.heap) σ H s :=
  I.pins_of fun p hp => (List.mem_append.mp hp).elim (fun z => I.pin p (List.mem_append_right _ z)) fun z => by
    obtain ⟨hb, e⟩ := of_pinsAt z
    obtain ⟨f0, f1, f2, _⟩ := hf p.1 hb
    obtain ⟨o, e', d⟩ := ho p.1 hb
    rw [e] at e'; cases e'
    exact ⟨e, f0, f1, f2, d⟩
theorem Inv.unpinned {pins pl : List (Addr × Obj)} {σ : St} {H : Hp} {s : Shared} (I : Inv X (pins ++ pl) σ H s) : Inv X pins σ H s := I.pins_of fun p hp => I.pin p (List.mem_append_right _ (List.mem_append_left _ hp))
theorem ps_for {iter : Expr} {body : List Stmt} {wi : TI} {g : TG} {tb : TS} {pos : Pos} (hp : PassesOwn (model X.prog X.w) X.A X.env X.xe) (hc : X.calm = true) (hi : PI X tg iter wi) (hg : PG X tg g) (hb : PSs X body tb)
    (hs : ∀ x, foldedSetIterable iter X.env x = pure x := by intro _; rfl) : PS X (.For tg iter body [] pos) (tFor wi g tb) := by
  intro pins s σ H D I h
  refine wpAny_For (thn (hi pins s σ H _ I h) fun v s1 h1 => thn h1 fun itv s2 h2 => ?_) hs
  obtain ⟨it, fp, tn, J, H2, e, I2, T, st2, f2, W, ⟨m0, w0⟩, turn⟩ := h2
  subst e
  have stat : ∀ {H' : Hp}, (∀ b ∈ fp, H' b = none) → ∀ b ∈ fp, FpOk X pins H' b := fun hn b hb => ⟨hn b hb, (f2 b hb).2⟩
  refine codeAny_forLoop_any (fun n s' => ∃ i σ' H', Inv X pins σ' H' s' ∧ tn i s'.heap ∧ (∀ b ∈ fp, H' b = none) ∧ W i n σ' H') ?_ m0 ⟨0, σ, H2, I2, st2, fun b hb => (f2 b hb).1, w0⟩
  rintro n s3 ⟨i, σ3, H3, I3, st3, fr3, w3⟩
  rcases turn i n σ3 H3 w3 with ⟨stop, qn⟩ | ⟨go, N, hN, step⟩
  · refine wpAny_passesOwn hp (thn (T.done X rfl rfl rfl hc i pins s3 σ3 H3 X.xe I3 (stat fr3) st3 stop) fun r s4 ⟨hr, I4⟩ => ?_)
    subst hr
    exact wpAny_execs_nil ⟨σ3, H3, I4, qn⟩
  · refine wpAny_passesOwn hp (thn (T.item X rfl rfl rfl hc i pins s3 σ3 H3 X.xe I3 (stat fr3) st3 go) fun r s4 ⟨u, hr, h4⟩ => ?_)
    subst hr
    refine wpAny_passesOwn hp (thn h4 fun _ s5 ⟨x, H5, I5, r5, y5, st5, fr5⟩ => ?_)
    have I5' := I5.pinned (stat fr5) (T.obj _ _ st5)
    refine wpAny_passesOwn hp (thn (hg _ s5 σ3 H5 x u _ I5' r5 (step x H5 y5)) fun _ s6 ⟨σ6, H6, I6, q6⟩ => ?_)
    refine wpAny_passesOwn hp (thn (hb _ s6 σ6 H6 _ I6 q6) fun f s7 q7 => ?_)
    have again : ∀ {σ7 : St} {H7 : Hp}, Inv X (pins ++ pinsAt fp s5.heap) σ7 H7 s7 → N σ7 H7 → ∃ m, m < n ∧ ∃ i σ' H', Inv X pins σ' H' s7 ∧ tn i s7.heap ∧ (∀ b ∈ fp, H' b = none) ∧ W i m σ' H' := fun {σ7 H7} I7 n7 => by
      obtain ⟨m', hm, w7⟩ := hN σ7 H7 n7
      refine ⟨m', hm, i + 1, σ7, H7, I7.unpinned, T.keep _ _ _ st5 fun b hb o e => (I7.pin (b, o) (List.mem_append_right _ (List.mem_append_right _ (mem_pinsAt hb e)))).1, fun b hb => ?_, w7⟩
      obtain ⟨o, e, d⟩ := T.obj _ _ st5 b hb
      exact (I7.pin (b, o) (List.mem_append_right _ (List.mem_append_right _ (mem_pinsAt hb e)))).2.1
    cases f with
    | next => obtain ⟨σ7, H7, I7, n7⟩ := q7; exact again I7 n7
    | cont => obtain ⟨σ7, H7, I7, n7⟩ := q7; exact again I7 n7
    | brk => obtain ⟨σ7, H7, I7, q7⟩ := q7; exact ⟨σ7, H7, I7.unpinned, q7⟩
    | ret v => obtain ⟨x7, σ7, H7, I7, r7, q7⟩ := q7; exact ⟨x7, σ7, H7, I7.unpinned, r7, q7⟩
end
theorem for_list {K : PySem.W.Frag} {a : Addr} {xs : List V} {g : TG} {tb : TS} {D : Ends} {σ : St} {H : Hp} (Pv : Nat → St → Hp → Prop) (h0 : Pv 0 σ H) (hl : ∀ i σ H, i ≤ xs.length → Pv i σ H → SqL K H a xs)
    (hs : ∀ i x σ H, xs[i]? = some x → Pv i σ H → g x σ H fun σ2 H2 => tb { D with nx := Pv (i + 1), ct := Pv (i + 1), bk := D.nx } σ2 H2) (hd : ∀ σ H, Pv xs.length σ H → D.nx σ H) :
    ∃ W : Nat → Nat → St → Hp → Prop, (∃ m, W 0 m σ H) ∧ ∀ i m σ H, W i m σ H →
      ((Itl K a).stop i H ∧ D.nx σ H) ∨ ((Itl K a).go i H ∧ ∃ N : St → Hp → Prop, (∀ σ' H', N σ' H' → ∃ m', m' < m ∧ W (i + 1) m' σ' H') ∧ ∀ x H', (Itl K a).yld i H x H' → g x σ H' fun σ2 H2 => tb { D with nx := N, ct := N, bk := D.nx } σ2 H2) := by
  refine ⟨fun i m σ H => m = xs.length - i ∧ i ≤ xs.length ∧ Pv i σ H, ⟨xs.length, by simp, Nat.zero_le _, h0⟩, ?_⟩
  rintro i m σ H ⟨rfl, hi, p⟩
  have q := hl i σ H hi p
  by_cases hlt : i < xs.length
  · refine .inr ⟨⟨xs, xs[i], q, by simp [hlt]⟩, Pv (i + 1), fun σ' H' p' => ⟨xs.length - (i + 1), by omega, rfl, hlt, p'⟩, fun x H' y => ?_⟩
    obtain ⟨e, y⟩ := y
    subst e
    exact hs i x σ _ (y xs q) p
  · have e : i = xs.length := by omega
    subst e
    exact .inl ⟨⟨xs, q, Nat.le_refl _⟩, hd σ H p⟩
theorem for_tup {K : PySem.W.Frag} {a : Addr} {xs : List V} {g : TG} {tb : TS} {D : Ends} {σ : St} {H : Hp} (Pv : Nat → St → Hp → Prop) (h0 : Pv 0 σ H) (hl : ∀ i σ H, i ≤ xs.length → Pv i σ H → SqT K H a xs)
    (hs : ∀ i x σ H, xs[i]? = some x → Pv i σ H → g x σ H fun σ2 H2 => tb { D with nx := Pv (i + 1), ct := Pv (i + 1), bk := D.nx } σ2 H2) (hd : ∀ σ H, Pv xs.length σ H → D.nx σ H) :
    ∃ W : Nat → Nat → St → Hp → Prop, (∃ m, W 0 m σ H) ∧ ∀ i m σ H, W i m σ H →
      ((Itt K a).stop i H ∧ D.nx σ H) ∨ ((Itt K a).go i H ∧ ∃ N : St → Hp → Prop, (∀ σ' H', N σ' H' → ∃ m', m' < m ∧ W (i + 1) m' σ' H') ∧ ∀ x H', (Itt K a).yld i H x H' → g x σ H' fun σ2 H2 => tb { D with nx := N, ct := N, bk := D.nx } σ2 H2) := by
  refine ⟨fun i m σ H => m = xs.length - i ∧ i ≤ xs.length ∧ Pv i σ H, ⟨xs.length, by simp, Nat.zero_le _, h0⟩, ?_⟩
  rintro i m σ H ⟨rfl, hi, p⟩
  have q := hl i σ H hi p
  by_cases hlt : i < xs.length
  · refine .inr ⟨⟨xs, xs[i], q, by simp [hlt]⟩, Pv (i + 1), fun σ' H' p' => ⟨xs.length - (i + 1), by omega, rfl, hlt, p'⟩, fun x H' y => ?_⟩
    obtain ⟨e, y⟩ := y
    subst e
    exact hs i x σ _ (y xs q) p
  · have e : i = xs.length := by omega
    subst e
    exact .inl ⟨⟨xs, q, Nat.le_refl _⟩, hd σ H p⟩
theorem while_by {c : TT} {tb : TS} {D : Ends} {σ : St} {H : Hp} (Pv : St → Hp → Prop) (μ : St → Hp → Nat) (h0 : Pv σ H)
    (hs : ∀ σ H, Pv σ H → c σ H fun b H1 => if b = true then tb { D with nx := fun σ' H' => Pv σ' H' ∧ μ σ' H' < μ σ H, ct := fun σ' H' => Pv σ' H' ∧ μ σ' H' < μ σ H, bk := D.nx } σ H1 else D.nx σ H1)
    (mono : ∀ σ H Q Q', (∀ b H1, Q b H1 → Q' b H1) → c σ H Q → c σ H Q') : tWhile c tb D σ H := by
  refine ⟨fun m σ H => m = μ σ H ∧ Pv σ H, ⟨_, rfl, h0⟩, ?_⟩
  rintro m σ H ⟨rfl, p⟩
  refine mono σ H _ _ (fun b H1 q => ?_) (hs σ H p)
  cases b with
  | true => exact ⟨_, fun σ' H' ⟨p', l⟩ => ⟨_, l, rfl, p'⟩, q⟩
  | false => exact q
end L2
namespace L2
open PySem PySem.Spec PyProof.Rows
noncomputable abbrev R2 := V → V → Hp → VK → Prop
noncomputable def OpR (X : Cx) (f : Value → Value → Sem Value) (r : R2) : Prop :=
  ∀ (pins : List (Addr × Obj)) (s : Shared) (σ : St) (H : Hp) (x y : V) (v u : Value) (Q : VK), Inv X pins σ H s → RelV x v → RelV y u → r x y H Q →
    wpAny (model X.prog X.w) X.A (f v u) (EP X pins σ Q) X.xe s
noncomputable def UnR (X : Cx) (f : Value → Sem Value) (r : V → Hp → VK → Prop) : Prop :=
  ∀ (pins : List (Addr × Obj)) (s : Shared) (σ : St) (H : Hp) (x : V) (v : Value) (Q : VK), Inv X pins σ H s → RelV x v → r x H Q →
    wpAny (model X.prog X.w) X.A (f v) (EP X pins σ Q) X.xe s
noncomputable def CallR (X : Cx) (f : Value) (r : List V → Hp → VK → Prop) : Prop :=
  ∀ (pins : List (Addr × Obj)) (s : Shared) (σ : St) (H : Hp) (xs : List V) (us : List Value) (Q : VK), Inv X pins σ H s → Vals xs us → r xs H Q →
    wpAny (model X.prog X.w) X.A (call f us) (EP X pins σ Q) X.xe s
noncomputable def tOp (r : R2) (ta tb : TE) : TE := fun σ H Q => ta σ H fun x H1 => tb σ H1 fun y H2 => r x y H2 Q
noncomputable def tUn (r : V → Hp → VK → Prop) (ta : TE) : TE := fun σ H Q => ta σ H fun x H1 => r x H1 Q
noncomputable def rI (C : Int → Int → Prop) (g : Int → Int → V) : R2 := fun x y H Q => ∃ i j, x = .int i ∧ y = .int j ∧ C i j ∧ Q (g i j) H
noncomputable def rI0 (g : Int → Int → V) : R2 := fun x y H Q => ∃ i j, x = .int i ∧ y = .int j ∧ Q (g i j) H
noncomputable def rU (g : Int → V) : V → Hp → VK → Prop := fun x H Q => ∃ i, x = .int i ∧ Q (g i) H
section
variable {X : Cx} {a b c : Expr} {ta tb tc : TE} {pos : Pos}
theorem binT (ha : PE X a ta) (hb : PE X b tb) {pins : List (Addr × Obj)} {s : Shared} {σ : St} {H : Hp} {R : V → V → Hp → Prop} (I : Inv X pins σ H s)
    (h : ta σ H fun x H1 => tb σ H1 fun y H2 => R x y H2) {Q : Value → Shared → Prop} {f : Value → Value → Sem Value}
    (hf : ∀ v u s2 x y H2, Inv X pins σ H2 s2 → RelV x v → RelV y u → R x y H2 → wpAny (model X.prog X.w) X.A (f v u) Q X.xe s2) :
    wpAny (model X.prog X.w) X.A (eval a X.env) (fun v s₁ => wpAny (model X.prog X.w) X.A (eval b X.env) (fun u s₂ => wpAny (model X.prog X.w) X.A (f v u) Q X.xe s₂) X.xe s₁) X.xe s := by
  refine thn (ha pins s σ H _ I h) fun v s1 ⟨x, H1, I1, r1, q1⟩ => ?_
  refine thn (hb pins s1 σ H1 _ I1 q1) fun u s2 ⟨y, H2, I2, r2, q2⟩ => ?_
  exact hf v u s2 x y H2 I2 r1 r2 q2
theorem pe_op {op : Operator} {r : R2} (ho : OpR X (binaryOp op) r) (ha : PE X a ta) (hb : PE X b tb) : PE X (.BinOp a op b pos) (tOp r ta tb) := by
  intro pins s σ H Q I h
  exact wpAny_BinOp (binT ha hb I h fun v u s2 x y H2 I2 rx ry q => ho pins s2 σ H2 x y v u Q I2 rx ry q)
theorem pe_un {op : UnaryOp} {r : V → Hp → VK → Prop} (ho : UnR X (unaryOp op) r) (ha : PE X a ta) : PE X (.UnaryOp op a pos) (tUn r ta) := by
  intro pins s σ H Q I h
  exact UnaryOp_ (thn (ha pins s σ H _ I h) fun v s1 ⟨x, H1, I1, r1, q1⟩ => ho pins s1 σ H1 x v Q I1 r1 q1)
theorem opI {f : Value → Value → Sem Value} {C : Int → Int → Prop} {g : Int → Int → Int}
    (rule : ∀ (i j : Int) (t u : Tok) (s : Shared) (Q : Value → Shared → Prop) (E : Value → Shared → Prop), C i j → Q (.int (g i j) s.toks) { s with toks := s.toks + 1 } → wpAny (model X.prog X.w) X.A (f (.int i t) (.int j u)) Q E s) :
    OpR X f (rI C fun i j => .int (g i j)) := by
  intro pins s σ H x y v u Q I rx ry h
  obtain ⟨i, j, rfl, rfl, hc, q⟩ := h
  obtain ⟨t, rfl⟩ := rx
  obtain ⟨t', rfl⟩ := ry
  exact rule i j t t' s _ _ hc ⟨.int (g i j), H, I.tok _, ⟨_, rfl⟩, q⟩
theorem opI0 {f : Value → Value → Sem Value} {g : Int → Int → Int}
    (rule : ∀ (i j : Int) (t u : Tok) (s : Shared) (Q : Value → Shared → Prop) (E : Value → Shared → Prop), Q (.int (g i j) s.toks) { s with toks := s.toks + 1 } → wpAny (model X.prog X.w) X.A (f (.int i t) (.int j u)) Q E s) :
    OpR X f (rI0 fun i j => .int (g i j)) := by
  intro pins s σ H x y v u Q I rx ry h
  obtain ⟨i, j, rfl, rfl, q⟩ := h
  obtain ⟨t, rfl⟩ := rx
  obtain ⟨t', rfl⟩ := ry
  exact rule i j t t' s _ _ ⟨.int (g i j), H, I.tok _, ⟨_, rfl⟩, q⟩
theorem opB0 {f : Value → Value → Sem Value} {g : Int → Int → Bool}
    (rule : ∀ (i j : Int) (t u : Tok) (s : Shared) (Q : Value → Shared → Prop) (E : Value → Shared → Prop), Q (.bool (g i j)) s → wpAny (model X.prog X.w) X.A (f (.int i t) (.int j u)) Q E s) :
    OpR X f (rI0 fun i j => .bl (g i j)) := by
  intro pins s σ H x y v u Q I rx ry h
  obtain ⟨i, j, rfl, rfl, q⟩ := h
  obtain ⟨t, rfl⟩ := rx
  obtain ⟨t', rfl⟩ := ry
  exact rule i j t t' s _ _ ⟨.bl (g i j), H, I, rfl, q⟩
noncomputable def CPow (i j : Int) : Prop := 0 ≤ j ∧ j ≤ 1000000 ∧ i.natAbs < 2 ^ 64
noncomputable def CMul (i j : Int) : Prop := (-(2 ^ 64) < i ∧ i < 2 ^ 64) ∨ (-(2 ^ 64) < j ∧ j < 2 ^ 64)
theorem CMul.ok {i j : Int} (h : CMul i j) : IntMulOk i j := by
  rcases h with ⟨h1, h2⟩ | ⟨h1, h2⟩
  · exact .of_left (intBits_le_64 h1 h2)
  · exact .of_right (intBits_le_64 h1 h2)
theorem op_add : OpR X (binaryOp .Add) (rI0 fun i j => .int (i + j)) := opI0 fun _ _ _ _ _ _ _ q => add_int q
theorem op_sub : OpR X (binaryOp .Sub) (rI0 fun i j => .int (i - j)) := opI0 fun _ _ _ _ _ _ _ q => sub_int q
theorem op_mod : OpR X (binaryOp .Mod) (rI (fun _ j => 0 < j) fun i j => .int (i % j)) := opI fun i j _ _ _ _ _ hc q => by
  have h1 : (0 : Int) < j := hc
  exact mod_int' (by omega) (by rw [Int.fmod_eq_emod_of_nonneg i (by omega)]; exact q)
theorem op_pow : OpR X (binaryOp .Pow) (rI CPow fun i j => .int (i ^ j.toNat)) := opI fun _ _ _ _ _ _ _ hc q => pow_int_small hc.1 hc.2.1 hc.2.2 q
theorem unI {f : Value → Sem Value} {g : Int → Int}
    (rule : ∀ (i : Int) (t : Tok) (s : Shared) (Q : Value → Shared → Prop) (E : Value → Shared → Prop), Q (.int (g i) s.toks) { s with toks := s.toks + 1 } → wpAny (model X.prog X.w) X.A (f (.int i t)) Q E s) :
    UnR X f (rU fun i => .int (g i)) := by
  intro pins s σ H x v Q I rx h
  obtain ⟨i, rfl, q⟩ := h
  obtain ⟨t, rfl⟩ := rx
  exact rule i t s _ _ ⟨.int (g i), H, I.tok _, ⟨_, rfl⟩, q⟩
theorem un_neg : UnR X (unaryOp .USub) (rU fun i => .int (-i)) := unI fun _ _ _ _ _ q => neg_int q
end
noncomputable def scal : V → V → Bool
  | .non, .non => true | .non, .int _ => true | .int _, .non => true | .non, .bl _ => true | .bl _, .non => true | .non, .str _ => true | .str _, .non => true
  | .int _, .int _ => true | .bl _, .bl _ => true | .str _, .str _ => true | .byt _, .byt _ => true
  | .int _, .str _ => true | .str _, .int _ => true | .bl _, .str _ => true | .str _, .bl _ => true
  | _, _ => false
noncomputable def rEq : R2 := fun x y H Q => scal x y = true ∧ Q (.bl (decide (x = y))) H
noncomputable def rNe : R2 := fun x y H Q => scal x y = true ∧ Q (.bl (!decide (x = y))) H
theorem dec_int {i j : Int} : decide (V.int i = V.int j) = (i == j) := by
  rw [Bool.eq_iff_iff]
  simp
theorem dec_bl {i j : Bool} : decide (V.bl i = V.bl j) = (i == j) := by
  rw [Bool.eq_iff_iff]
  simp
theorem dec_str {i j : Str} : decide (V.str i = V.str j) = (i == j) := by
  rw [Bool.eq_iff_iff]
  simp
theorem dec_byt {i j : Array UInt8} : decide (V.byt i = V.byt j) = (i.toList == j.toList) := by
  rw [Bool.eq_iff_iff]
  cases i
  cases j
  simp
section
variable {X : Cx} {a b c : Expr} {ta tb tc : TE} {pos : Pos}
theorem fin_bl {pins : List (Addr × Obj)} {σ : St} {H : Hp} {s : Shared} {Q : VK} {k k' : Bool} (I : Inv X pins σ H s) (q : Q (.bl k) H) (e : k = k') : EP X pins σ Q (.bool k') s := by
  subst e
  exact ⟨.bl k, H, I, rfl, q⟩
theorem op_eq : OpR X (compareOp .Eq) rEq := by
  intro pins s σ H x y v u Q I rx ry h
  obtain ⟨hs, q⟩ := h
  cases x with
  | non =>
    cases rx
    cases y with
    | non => cases ry; exact PySem.EqNone.eq_none_none (fin_bl I q (by simp))
    | bl j => cases ry; exact PySem.EqNone.eq_none_bool (fin_bl I q (by simp))
    | int j => obtain ⟨t', rfl⟩ := ry; exact PySem.EqNone.eq_none_int (fin_bl I q (by simp))
    | str j => obtain ⟨t', rfl⟩ := ry; exact PySem.EqNone.eq_none_str (fin_bl I q (by simp))
    | _ => exact absurd (show false = true from hs) Bool.false_ne_true
  | bl i =>
    cases rx
    cases y with
    | non => cases ry; exact PySem.EqNone.eq_bool_none (fin_bl I q (by simp))
    | bl j => cases ry; exact eq_bool (fin_bl I q dec_bl)
    | str j => obtain ⟨t', rfl⟩ := ry; exact PySem.EqMixed.eq_bool_str (fin_bl I q (by simp))
    | _ => exact absurd (show false = true from hs) Bool.false_ne_true
  | int i =>
    obtain ⟨t, rfl⟩ := rx
    cases y with
    | non => cases ry; exact PySem.EqNone.eq_int_none (fin_bl I q (by simp))
    | int j => obtain ⟨t', rfl⟩ := ry; exact eq_int (fin_bl I q dec_int)
    | str j => obtain ⟨t', rfl⟩ := ry; exact PySem.EqMixed.eq_int_str (fin_bl I q (by simp))
    | _ => exact absurd (show false = true from hs) Bool.false_ne_true
  | str i =>
    obtain ⟨t, rfl⟩ := rx
    cases y with
    | non => cases ry; exact PySem.EqNone.eq_str_none (fin_bl I q (by simp))
    | bl j => cases ry; exact PySem.EqMixed.eq_str_bool (fin_bl I q (by simp))
    | int j => obtain ⟨t', rfl⟩ := ry; exact PySem.EqMixed.eq_str_int (fin_bl I q (by simp))
    | str j => obtain ⟨t', rfl⟩ := ry; exact eq_str (fin_bl I q dec_str)
    | _ => exact absurd (show false = true from hs) Bool.false_ne_true
  | byt i =>
    obtain ⟨t, rfl⟩ := rx
    cases y with
    | byt j => obtain ⟨t', rfl⟩ := ry; exact PySem.W.eq_bytes (fin_bl I q dec_byt)
    | _ => exact absurd (show false = true from hs) Bool.false_ne_true
  | _ => cases y <;> exact absurd (show false = true from hs) Bool.false_ne_true
theorem op_ne : OpR X (compareOp .NotEq) rNe := by
  intro pins s σ H x y v u Q I rx ry h
  obtain ⟨hs, q⟩ := h
  cases x with
  | non =>
    cases rx
    cases y with
    | non => cases ry; exact PySem.EqNone.ne_none_none (fin_bl I q (by simp))
    | bl j => cases ry; exact PySem.EqNone.ne_none_bool (fin_bl I q (by simp))
    | int j => obtain ⟨t', rfl⟩ := ry; exact PySem.EqNone.ne_none_int (fin_bl I q (by simp))
    | str j => obtain ⟨t', rfl⟩ := ry; exact PySem.EqNone.ne_none_str (fin_bl I q (by simp))
    | _ => exact absurd (show false = true from hs) Bool.false_ne_true
  | bl i =>
    cases rx
    cases y with
    | non => cases ry; exact PySem.EqNone.ne_bool_none (fin_bl I q (by simp))
    | bl j => cases ry; exact ne_bool (fin_bl I q (congrArg not dec_bl))
    | str j => obtain ⟨t', rfl⟩ := ry; exact PySem.EqMixed.ne_bool_str (fin_bl I q (by simp))
    | _ => exact absurd (show false = true from hs) Bool.false_ne_true
  | int i =>
    obtain ⟨t, rfl⟩ := rx
    cases y with
    | non => cases ry; exact PySem.EqNone.ne_int_none (fin_bl I q (by simp))
    | int j => obtain ⟨t', rfl⟩ := ry; exact ne_int (fin_bl I q (congrArg not dec_int))
    | str j => obtain ⟨t', rfl⟩ := ry; exact PySem.EqMixed.ne_int_str (fin_bl I q (by simp))
    | _ => exact absurd (show false = true from hs) Bool.false_ne_true
  | str i =>
    obtain ⟨t, rfl⟩ := rx
    cases y with
    | non => cases ry; exact PySem.EqNone.ne_str_none (fin_bl I q (by simp))
    | bl j => cases ry; exact PySem.EqMixed.ne_str_bool (fin_bl I q (by simp))
    | int j => obtain ⟨t', rfl⟩ := ry; exact PySem.EqMixed.ne_str_int (fin_bl I q (by simp))
    | str j => obtain ⟨t', rfl⟩ := ry; exact ne_str (fin_bl I q (congrArg not dec_str))
    | _ => exact absurd (show false = true from hs) Bool.false_ne_true
  | byt i =>
    obtain ⟨t, rfl⟩ := rx
    cases y with
    | byt j => obtain ⟨t', rfl⟩ := ry; exact PySem.W.ne_bytes (fin_bl I q (congrArg not dec_byt))
    | _ => exact absurd (show false = true from hs) Bool.false_ne_true
  | _ => cases y <;> exact absurd (show false = true from hs) Bool.false_ne_true
theorem op_lt : OpR X (compareOp .Lt) (rI0 fun i j => .bl (decide (i < j))) := opB0 fun _ _ _ _ _ _ _ q => lt_int q
theorem op_le : OpR X (compareOp .LtE) (rI0 fun i j => .bl (decide (i ≤ j))) := opB0 fun _ _ _ _ _ _ _ q => le_int q
theorem op_gt : OpR X (compareOp .Gt) (rI0 fun i j => .bl (decide (j < i))) := opB0 fun _ _ _ _ _ _ _ q => gt_int q
theorem nomark (b : Expr) {op : CmpOp} (h : op ≠ .In := by decide) (h2 : op ≠ .NotIn := by decide) : behindInMarks op b = false := by
  have e1 : (op == CmpOp.In) = false := by cases op <;> first | rfl | exact absurd rfl h
  have e2 : (op == CmpOp.NotIn) = false := by cases op <;> first | rfl | exact absurd rfl h2
  cases b <;> simp [behindInMarks, e1, e2]
theorem pe_cmpR {op : CmpOp} {r : R2} (ho : OpR X (compareOp op) r) (ha : PE X a ta) (hb : PE X b tb) (hm : behindInMarks op b = false) : PE X (.Compare a [op] [b] pos) (tOp r ta tb) := by
  intro pins s σ H Q I h
  exact wpAny_Compare1 (binT ha hb I h fun v u s2 x y H2 I2 rx ry q => ho pins s2 σ H2 x y v u Q I2 rx ry q) hm
noncomputable def tTest (t : TE) : TT := fun σ H Q => t σ H fun x H' => ∃ k, x = .bl k ∧ Q k H'
theorem pt_cmpR {op : CmpOp} {r : R2} (ho : OpR X (compareOp op) r) (ha : PE X a ta) (hb : PE X b tb) (hm : behindInMarks op b = false) : PT X (.Compare a [op] [b] pos) (tTest (tOp r ta tb)) := by
  intro pins s σ H Q I h
  refine wpAny_isTrue_Compare1 (thn (ha pins s σ H _ I h) fun v s1 ⟨x, H1, I1, r1, q1⟩ => thn (hb pins s1 σ H1 _ I1 q1) fun u s2 ⟨y, H2, I2, r2, q2⟩ =>
    thn (ho pins s2 σ H2 x y v u _ I2 r1 r2 q2) fun c s3 ⟨z, H3, I3, r3, k, e, q3⟩ => ?_) hm
  subst e
  cases r3
  exact wpAny_truthy_bool ⟨H3, I3, q3⟩
noncomputable def tChain (r r' : R2) (ta tb tc : TE) : TE := fun σ H Q => ta σ H fun x H1 => tb σ H1 fun y H2 => r x y H2 fun z H3 => ∃ k, z = .bl k ∧
  (if k = true then tc σ H3 fun w' H4 => r' y w' H4 Q else Q (.bl false) H3)
theorem pe_chain {op op' : CmpOp} {r r' : R2} (ho : OpR X (compareOp op) r) (ho' : OpR X (compareOp op') r') (ha : PE X a ta) (hb : PE X b tb) (hc : PE X c tc)
    (hm : lastMarks [op, op'] [b, c] = false := by with_unfolding_all rfl) : PE X (.Compare a [op, op'] [b, c] pos) (tChain r r' ta tb tc) := by
  intro pins s σ H Q I h
  refine Compare_chain (thn (ha pins s σ H _ I h) fun v s1 ⟨x, H1, I1, r1, q1⟩ => chain_link (thn (hb pins s1 σ H1 _ I1 q1) fun u s2 ⟨y, H2, I2, r2, q2⟩ =>
    thn (ho pins s2 σ H2 x y v u _ I2 r1 r2 q2) fun d s3 ⟨z, H3, I3, r3, k, e, q3⟩ => ?_)) hm
  subst e
  cases r3
  refine wpAny_truthy_bool ?_
  cases k with
  | false => exact ite_ff ⟨.bl false, H3, I3, rfl, q3⟩
  | true => exact ite_tt (chain_last (thn (hc pins s3 σ H3 _ I3 q3) fun w' s4 ⟨z', H4, I4, r4, q4⟩ => ho' pins s4 σ H4 y z' u w' Q I4 r2 r4 q4))
theorem line63 : (sizeLine : Nat) < 2 ^ 63 := by rw [sizeLine_eq]; decide
theorem vals1 {x : V} {us : List Value} (r : Vals [x] us) : ∃ u, us = [u] ∧ RelV x u := by
  cases r with
  | cons r1 r2 => cases r2; exact ⟨_, rfl, r1⟩
theorem vals2 {x y : V} {us : List Value} (r : Vals [x, y] us) : ∃ u w', us = [u, w'] ∧ RelV x u ∧ RelV y w' := by
  cases r with
  | cons r1 r2 =>
    cases r2 with
    | cons r3 r4 => cases r4; exact ⟨_, _, rfl, r1, r3⟩
theorem call_abs : CallR X (.builtin "abs") (fun xs H Q => ∃ i, xs = [.int i] ∧ Q (.int (if i < 0 then -i else i)) H) := by
  intro pins s σ H xs us Q I r h
  obtain ⟨i, rfl, q⟩ := h
  obtain ⟨u, rfl, t, rfl⟩ := vals1 r
  exact call_abs_int fun u tk => ⟨.int (if i < 0 then -i else i), H, I.tok _, ⟨_, rfl⟩, q⟩
theorem call_max2 (hc : X.calm = true) : CallR X (.builtin "max") (fun xs H Q => ∃ i j, xs = [.int i, .int j] ∧ Q (.int (if j > i then j else i)) H) := by
  intro pins s σ H xs us Q I r h
  obtain ⟨i, j, rfl, q⟩ := h
  obtain ⟨u, w', rfl, ⟨t, rfl⟩, ⟨t', rfl⟩⟩ := vals2 r
  refine max_two_ints (I.ok.hd hc) fun h' tk k => ⟨_, H, I.kept k, ?_, q⟩
  by_cases hj : j > i
  · rw [if_pos hj, if_pos hj]; exact ⟨_, rfl⟩
  · rw [if_neg hj, if_neg hj]; exact ⟨_, rfl⟩
theorem call_int1 : CallR X (.type "int") (fun xs H Q => (∃ i, xs = [.int i] ∧ Q (.int i) H) ∨ ∃ k, xs = [.bl k] ∧ Q (.int (if k then 1 else 0)) H) := by
  intro pins s σ H xs us Q I r h
  rcases h with ⟨i, rfl, q⟩ | ⟨k, rfl, q⟩
  · obtain ⟨u, rfl, t, rfl⟩ := vals1 r
    exact call_int_int ⟨.int i, H, I, ⟨_, rfl⟩, q⟩
  · obtain ⟨u, rfl, r1⟩ := vals1 r
    cases r1
    exact call_int_bool ⟨.int (if k then 1 else 0), H, I.tok _, ⟨_, rfl⟩, q⟩
end
end L2
namespace L2
open PySem PySem.Spec PyProof.Rows
structure ObjM (h : Heap) (x dx C : Addr) (mA : Str → Option Value) : Prop where
  obj : h.get? x = some (PySem.W.instObj C dx)
  ns : h.Ns1 dx mA
  ne : dx ≠ x
theorem lookIn_ns {h : Heap} {dx : Addr} {mA : Str → Option Value} (n : h.Ns1 dx mA) : ∃ od, h.get? dx = some od ∧ ∀ name, PySem.W.lookIn name od = some (mA name) := by
  obtain ⟨o, es, ep, ho, hd, hk, _, hm⟩ := n
  refine ⟨o, ho, fun name => ?_⟩
  have e := hm name
  unfold nsFind findBy at e
  rw [← Array.find?_toList] at e
  unfold PySem.W.lookIn
  rw [hd]
  dsimp only
  split
  · rename_i y q
    rw [q] at e
    exact congrArg some e
  · rename_i q
    rw [q] at e
    have a : es.toList.any (·.refKey) = false := by
      rw [List.any_eq_false]
      intro y hy
      obtain ⟨z, t, hkey⟩ := hk y (Array.mem_toList_iff.mp hy)
      simp [DictEntry.refKey, hkey]
    have a' : ¬ es.toList.any (·.refKey) = true := by rw [a]; exact Bool.false_ne_true
    rw [if_neg a']
    exact congrArg some e
theorem ObjM.look {h : Heap} {x dx C : Addr} {mA : Str → Option Value} (I : ObjM h x dx C mA) : ∃ od, PySem.W.InstAt h x (PySem.W.instObj C dx) C (some od) ∧ ∀ name, PySem.W.lookIn name od = some (mA name) :=
  let ⟨od, ho, hl⟩ := lookIn_ns I.ns
  ⟨od, ⟨I.obj, rfl, rfl, ho⟩, hl⟩
section
variable {prog : Program} {w : World} {A : Around} {E : Value → Shared → Prop} {s : Shared} {K : PySem.W.Frag} {x dx C f : Addr} {mA : Str → Option Value} {name : Str} {v : Value}
end
section
variable {P : Program} {w : World} {H H' : Hp} {h h' : Heap} {a C dx : Addr} {fs fs' : List (Str × V)}
theorem ins_get (hok : HOk P w H h) (e : H a = some (.ins C dx fs)) : ∃ mA, ObjM h a dx C mA ∧ (∀ f, RelO (fs.lookup f) (mA f)) ∧ PySem.Within mA (fs.map (·.1)) ∧ fs.length ≤ 1000 ∧ H dx = some (.own a) := by
  obtain ⟨d, z, ne, ob, mA, n, r, q⟩ := (show ObjOk P w H h a (.ins C dx fs) from hok a _ e)
  exact ⟨mA, ⟨ob, n, ne⟩, r, q, z, d⟩
end
structure Cls (K : PySem.W.Frag) (C : Addr) : Prop where
  pg : PySem.W.plainGet K C Str.empty = true
  hd : PySem.W.hasDictIn K C = true
  po : PySem.W.plainOver K C = true
  sa : PySem.W.findIn K (.ref C) "__setattr__" = some (some (.builtin "object.__setattr__"))
theorem Cls.get {K : PySem.W.Frag} {C : Addr} (c : Cls K C) (f : Str) : PySem.W.plainGet K C f = true := c.pg
section
variable {X : Cx} {pins : List (Addr × Obj)} {σ : St} {H : Hp} {s : Shared} {a C dx : Addr} {fs : List (Str × V)} {f : Str} {v : V} {A : Around} {E : Value → Shared → Prop}
end
section
variable {X : Cx} {o e value : Expr} {f : Str} {pos pos' tpos : Pos} {ta tv : TE}
end
section
variable {X : Cx} {pins : List (Addr × Obj)} {σ : St} {H : Hp} {s : Shared} {A : Around} {E : Value → Shared → Prop} {Q : Value → Shared → Prop} {c : Value} {b : Bool}
inductive TyOf (K : PySem.W.Frag) (H : Hp) : V → Value → Prop where
  | non : TyOf K H .non (.type "NoneType")
  | bl (x : Bool) : TyOf K H (.bl x) (.type "bool")
  | int (i : Int) : TyOf K H (.int i) (.type "int")
  | str (x : Str) : TyOf K H (.str x) (.type "str")
  | flt (x : UInt64) : TyOf K H (.flt x) (.type "float")
  | lst {a : Addr} {xs : List V} (e : H a = some (.lst xs)) : TyOf K H (.ref a) (.type "list")
  | frz {a : Addr} {o : Obj} {xs : List V} (e : H a = some (.frz o (.lst xs))) : TyOf K H (.ref a) (.type "list")
  | tup {a : Addr} {xs : List V} (e : H a = some (.tup xs)) : TyOf K H (.ref a) (.type "tuple")
  | dK {a : Addr} {kvs : List (Key × V)} (e : H a = some (.dK kvs)) : TyOf K H (.ref a) (.type "dict")
  | dT {a : Addr} {kvs : List (List Key × V)} (e : H a = some (.dT kvs)) : TyOf K H (.ref a) (.type "dict")
  | ins {a C dx : Addr} {fs : List (Str × V)} (e : H a = some (.ins C dx fs)) (cl : Cls K C) (ha : PySem.W.findIn K (.ref C) "__class__" = some (some (.builtin "object.__class__")))
      (hn : PySem.W.specialIn K (.builtin "object.__class__") "__get__" = some (some (.builtin "getset_descriptor.__get__"))) (htk : PySem.W.takesIn K (.builtin "object.__class__") = some true)
      (hm : PySem.W.mroIn K C (.type "object") = some true) : TyOf K H (.ref a) (.ref C)
theorem isinst_ok {x : V} {u t : Value} (I : Inv X pins σ H s) (rx : RelV x u) (ty : TyOf X.K H x t) (e : PySem.W.kitOne X.K t c = some b) (h : ∀ tk, Q (.bool b) { s with toks := tk }) :
    wpAny (model X.prog X.w) A (call (.builtin "isinstance") [u, c]) Q E s := by
  cases ty with
  | non => cases (show u = Value.none from rx); exact PySem.W.kia_one PySem.W.kitx_none I.kIn True.intro e (fun z => nomatch z) h
  | bl y => cases (show u = Value.bool y from rx); exact PySem.W.kia_one PySem.W.kitx_bool I.kIn True.intro e (fun z => nomatch z) h
  | int i => obtain ⟨t, q⟩ := (show ∃ t, u = Value.int i t from rx); cases q; exact PySem.W.kia_one PySem.W.kitx_int I.kIn True.intro e (fun z => nomatch z) h
  | str y => obtain ⟨t, q⟩ := (show ∃ t, u = Value.str y t from rx); cases q; exact PySem.W.kia_one PySem.W.kitx_str I.kIn True.intro e (fun z => nomatch z) h
  | flt y => obtain ⟨t, q⟩ := (show ∃ t, u = Value.float y t from rx); cases q; exact PySem.W.kia_one PySem.W.kitx_float I.kIn True.intro e (fun z => nomatch z) h
  | @lst a xs ea =>
    cases (show u = Value.ref a from rx)
    obtain ⟨_, _, n, _, h1⟩ := (show ObjOk X.prog X.w H s.heap a (.lst xs) from I.hok a _ ea)
    exact PySem.W.kia_one PySem.W.kitx_list I.kIn ⟨_, h1, rfl⟩ e (fun z => nomatch z) h
  | @frz a ob xs ea =>
    cases (show u = Value.ref a from rx)
    obtain ⟨_, _, _, n, _, h1⟩ := (show ObjOk X.prog X.w H s.heap a (.frz ob (.lst xs)) from I.hok a _ ea)
    exact PySem.W.kia_one PySem.W.kitx_list I.kIn ⟨_, h1, rfl⟩ e (fun z => nomatch z) h
  | @tup a xs ea =>
    cases (show u = Value.ref a from rx)
    obtain ⟨_, _, _, p⟩ := (show ObjOk X.prog X.w H s.heap a (.tup xs) from I.hok a _ ea)
    obtain ⟨o, h1, h2, _⟩ := p
    exact PySem.W.kia_one PySem.W.kitx_tuple I.kIn ⟨o, h1, h2⟩ e (fun z => nomatch z) h
  | @dK a kvs ea =>
    cases (show u = Value.ref a from rx)
    obtain ⟨_, _, vs, _, p⟩ := (show ObjOk X.prog X.w H s.heap a (.dK kvs) from I.hok a _ ea)
    obtain ⟨o, es, ep, h1, h2, _⟩ := p
    exact PySem.W.kia_one PySem.W.kitx_dict I.kIn ⟨o, h1, h2.1⟩ e (fun z => nomatch z) h
  | @dT a kvs ea =>
    cases (show u = Value.ref a from rx)
    obtain ⟨_, _, xs, _, o, es, ep, h1, h2, _⟩ := (show ObjOk X.prog X.w H s.heap a (.dT kvs) from I.hok a _ ea)
    exact PySem.W.kia_one PySem.W.kitx_dict I.kIn ⟨o, h1, h2.1⟩ e (fun z => nomatch z) h
  | @ins a C dx fs ea cl ha hn htk hm =>
    cases (show u = Value.ref a from rx)
    obtain ⟨mA, O, _⟩ := ins_get I.hok ea
    obtain ⟨od, J, _⟩ := O.look
    exact PySem.W.kia_one (PySem.W.kitx_own (cl.get _) cl.hd ha hn htk hm) I.kIn J e (fun z => nomatch z) h
end
end L2
namespace L2
open PySem PySem.Spec PyProof.Rows
structure Room (k : Nat) (A : Around) : Prop where
  hd : A.handled = none
  dp : A.depth + 3 * k + 5 < recursionLimit
  un : A.units + 16 * k + 200 < cLine
theorem Room.mono {j k : Nat} {A : Around} (r : Room k A) (h : j ≤ k) : Room j A := ⟨r.hd, by have := r.dp; omega, by have := r.un; omega⟩
theorem Room.deeper {k : Nat} {A : Around} (r : Room (k + 1) A) (env : Env) : Room k (A.deeper env) :=
  ⟨r.hd, by have := r.dp; show A.depth + 1 + 3 * k + 5 < _; omega, by have := r.un; show A.units + 3 + 16 * k + 200 < _; omega⟩
theorem Room.depth {k : Nat} {A : Around} (r : Room k A) : A.depth < recursionLimit := by have := r.dp; omega
theorem Room.units {k : Nat} {A : Around} (r : Room k A) : A.units + 64 < cLine := by have := r.un; omega
theorem Room.units0 {k : Nat} {A : Around} (r : Room k A) : A.units < cLine := by have := r.un; omega
noncomputable def tNil : TA := fun _ H Q => Q [] H
noncomputable def tCons (ta : TE) (tr : TA) : TA := fun σ H Q => ta σ H fun x H1 => tr σ H1 fun xs H2 => Q (x :: xs) H2
section
variable {X : Cx} {e : Expr} {es : List Expr} {te : TE} {t : TA} {pos : Pos}
theorem pa_nil : PA X [] tNil := fun _ _ _ _ H Q I h => Calls.spliced_nil ⟨[], H, I, .nil, h⟩
theorem pa_cons (ha : PE X e te) (hr : PA X es t) (hs : starEach (e :: es) X.env = (false, eval e X.env) :: starEach es X.env := by rfl) : PA X (e :: es) (tCons te t) := by
  intro pos pins s σ H Q I h
  rw [hs]
  show wpAny _ _ (spliced ((false, eval e X.env) :: backTo pos (starEach es X.env))) _ _ s
  refine Calls.spliced_cons (thn (ha pins s σ H _ I h) fun u s1 ⟨x, H1, I1, r1, q1⟩ => ?_)
  exact thn (hr pos pins s1 σ H1 _ I1 q1) fun us s2 ⟨xs, H2, I2, r2, q2⟩ => ⟨x :: xs, H2, I2, .cons r1 r2, q2⟩
noncomputable def tTup (t : TA) : TE := fun σ H Q => t σ H fun xs H1 => xs.length ≤ sizeLine ∧ ∀ p, H1 p = none → Q (.ref p) (upd H1 p (.tup xs))
noncomputable def tLst (t : TA) : TE := fun σ H Q => t σ H fun xs H1 => xs.length ≤ sizeLine ∧ ∀ p, H1 p = none → Q (.ref p) (upd H1 p (.lst xs))
theorem pe_tup {x1} (h : PA X es t) : PE X (.Tuple es x1 pos) (tTup t) := by
  intro pins s σ H Q I hq
  refine wpAny_Tuple_spliced (thn (h pos pins s σ H _ I hq) fun us s1 ⟨xs, H1, I1, r, z, q⟩ => ⟨by rw [← r.length]; exact z, ?_⟩)
  have hf : H1 s1.heap.objs.size = none := I1.hok.fresh (Nat.le_refl _)
  refine ⟨.ref s1.heap.objs.size, upd H1 s1.heap.objs.size (.tup xs), I1.laid (t' := s1.toks) (fun b u e => Heap.get?_push_of_some _ e) (Nat.le_refl _) ?_, rfl, q _ hf⟩
  exact ⟨z, us, r, ⟨_, Heap.get?_push_size _ rfl, rfl, _, rfl⟩⟩
theorem pe_lst (h : PA X es t) : PE X (.List es pos) (tLst t) := by
  intro pins s σ H Q I hq
  refine wpAny_List_spliced (thn (h pos pins s σ H _ I hq) fun us s1 ⟨xs, H1, I1, r, z, q⟩ => ⟨by rw [← r.length]; exact z, ?_⟩)
  have hf : H1 s1.heap.objs.size = none := I1.hok.fresh (Nat.le_refl _)
  refine ⟨.ref s1.heap.objs.size, upd H1 s1.heap.objs.size (.lst xs), I1.laid (t' := s1.toks) (fun b u e => Heap.get?_push_of_some _ e) (Nat.le_refl _) ?_, rfl, q _ hf⟩
  exact ⟨z, us, 0, r, Heap.get?_push_size _ rfl⟩
end
noncomputable abbrev Sp := List V → Hp → VK → XK → Prop
noncomputable abbrev CXT := List Env → Hp → Shared → XK → Value → Shared → Prop
structure Env0 (P : Program) (w : World) (K : PySem.W.Frag) (mg : Str → Option Value) (base : Heap) (A : Around) (outer : List Env) (s : Shared) (H : Hp) : Prop where
  frames : A.frames = some outer
  mod : Mod K mg base
  bs : ∀ b o, base.get? b = some o → s.heap.get? b = some o ∧ H b = none
  bsz : base.objs.size ≤ s.heap.objs.size
  funs : s.heap.FunFrames base outer
  frf : ∀ b ∈ frs outer, H b = none
  hok : HOk P w H s.heap
  bare : AllBare s.gens
noncomputable def CE (outer : List Env) (P : Program) (w : World) (H : Hp) (s : Shared) (Q : VK) (u : Value) (s' : Shared) : Prop :=
  ∃ v H', s'.os = s.os ∧ AllBare s'.gens ∧ Un (frs outer) [] H H' s.heap s'.heap ∧ HOk P w H' s'.heap ∧ RelV v u ∧ Q v H'
noncomputable def CR (CX : CXT) (outer : List Env) (P : Program) (w : World) (H : Hp) (s : Shared) (Q : VK) (E : XK) (r : Result) (s' : Shared) : Prop :=
  match r with
  | .ok (.ret u) => CE outer P w H s Q u s'
  | .ok _ => False
  | .error e => CX outer H s E e s'
structure FnOk (P : Program) (w : World) (K : PySem.W.Frag) (mg : Str → Option Value) (base : Heap) (CX : CXT) (k : Nat) (f : Addr) (fd : FuncData) (ps : List Str) (sp : Sp) : Prop where
  len : ∀ vs H Q E, sp vs H Q E → vs.length = ps.length
  run : ∀ (A : Around) (outer : List Env) (s : Shared) (H : Hp) (args : Args) (us : List Value) (vs : List V) (Q : VK) (E : XK), Room k A → Env0 P w K mg base A outer s H → BindsTo s fd args (ps.zip us) → Vals vs us → sp vs H Q E →
    codeAny (model P w) A (.call (.ref f) args) (CR CX outer P w H s Q E) s
section
variable {X : Cx} {pins : List (Addr × Obj)} {σ : St} {H : Hp} {s s' : Shared}
theorem Inv.env0 (I : Inv X pins σ H s) : Env0 X.prog X.w X.K X.mg X.base X.A X.stack s H :=
  ⟨I.ok.frames, I.ok.mod, I.bs, Nat.le_trans I.ok.bsz I.sz, I.stack, I.stkFree, I.hok, I.bare⟩
theorem Inv.after {Q : VK} {u : Value} (I : Inv X pins σ H s) (h : CE X.stack X.prog X.w H s Q u s') : EP X pins σ Q u s' := by
  obtain ⟨v, H', os, bare, un, hok, r, q⟩ := h
  obtain ⟨hh, g, d, t, os'⟩ := s'
  obtain rfl : os' = s.os := os
  exact ⟨v, H', I.call (h' := hh) (g' := g) (d' := d) (t' := t) (ch := []) un hok bare (fun b z => absurd z (by simp)), r, q⟩
end
noncomputable def tCall (sp : Sp) (dvs : List V) (E : XK) (t : TA) : TE := fun σ H Q => t σ H fun vs H1 => sp (vs ++ dvs) H1 Q E
noncomputable def Binds (K : PySem.W.Frag) (fd : FuncData) (ps : List Str) (ds : List Value) : Prop :=
  ∀ (s : Shared) (us : List Value), K.In s.heap → (us ++ ds).length = ps.length → BindsTo s fd ⟨us, []⟩ (ps.zip (us ++ ds))
theorem Binds.all {K : PySem.W.Frag} {fd : FuncData} {ps : List Str} (h : ∀ us : List Value, us.length = ps.length → bindArgs fd ⟨us, []⟩ = pure (ps.zip us)) : Binds K fd ps [] := fun s us _ hl => by
  rw [List.append_nil] at hl ⊢
  exact .of_eq (h us hl)
noncomputable def Passes (CX : CXT) (X : Cx) (E : XK) : Prop := ∀ (pins : List (Addr × Obj)) (σ : St) (H : Hp) (s : Shared) (e : Value) (s' : Shared), Inv X pins σ H s → CX X.stack H s E e s' → X.xe e s'
section
variable {X : Cx} {CX : CXT} {k : Nat} {f C : Addr} {fd : FuncData} {ps : List Str} {sp : Sp} {dvs : List V} {ds : List Value} {E : XK} {x m : Str} {p pos apos : Pos} {e o : Expr} {es : List Expr} {ta : TE} {t : TA}
theorem run_fn {pins : List (Addr × Obj)} {σ : St} {H : Hp} {s : Shared} {Q : VK} {us : List Value} {vs : List V} (F : FnOk X.prog X.w X.K X.mg X.base CX k f fd ps sp) (hr : Room k X.A) (hb : Binds X.K fd ps ds) (hd : Vals dvs ds) (hx : Passes CX X E)
    (I : Inv X pins σ H s) (r : Vals vs us) (h : sp (vs ++ dvs) H Q E) : wpAny (model X.prog X.w) X.A (call (.ref f) us) (EP X pins σ Q) X.xe s := by
  have r2 : Vals (vs ++ dvs) (us ++ ds) := r.append hd
  have hl : (us ++ ds).length = ps.length := by rw [← r2.length]; exact F.len _ _ _ _ h
  refine wpAny_call (codeAny_mono (F.run X.A X.stack s H ⟨us, []⟩ (us ++ ds) (vs ++ dvs) Q E hr I.env0 (hb s us I.kIn hl) r2 h) fun r s' hq => ?_)
  cases r with
  | error e => exact hx pins σ H s e s' I hq
  | ok fl =>
    cases fl with
    | ret u => exact I.after hq
    | next => exact False.elim hq
    | brk => exact False.elim hq
    | cont => exact False.elim hq
theorem pe_call (F : FnOk X.prog X.w X.K X.mg X.base CX k f fd ps sp) (hr : Room k X.A) (hg : Gl X x) (hm : X.mg x = some (.ref f)) (hk : PySem.W.keepIn X.K (.ref f) = true) (hb : Binds X.K fd ps ds) (hd : Vals dvs ds) (hx : Passes CX X E)
    (ha : PA X (e :: es) t) (hdb : (x == ("__debug__" : Str)) = false := by decide) (he : starEach (e :: es) X.env = (false, eval e X.env) :: starEach es X.env := by rfl) (hpl : (backTo pos (starEach es X.env)).any (·.1) = false := by rfl) :
    PE X (.Call (.Name x p) (e :: es) [] pos) (tCall sp dvs E t) := by
  intro pins s σ H Q I h
  refine wpAny_Call_Name_kw (ld_glob I hg hm ?_ hdb)
  refine PySem.W.callWith_K (h₀ := X.base) I.ok.mod.kin hk (thn (ha pos pins s σ H _ I h) fun us s1 ⟨vs, H1, I1, r, q⟩ => ⟨I1.kIn, ?_⟩) he hpl
  exact run_fn F hr hb hd hx I1 r q
end
section
variable {X : Cx} {CX : CXT} {k : Nat} {f C : Addr} {fd : FuncData} {ps ks : List Str} {sp : Sp} {E : XK} {x m : Str} {p pos apos kpos : Pos} {e o : Expr} {es : List Expr} {kws : List Keyword} {te ta : TE} {t tk : TA} {nm : Option Str}
variable {g : List Value → List Value → List Value} {gV : List V → List V → List V}
end
structure FnScope (N P : List Str) (sc : Scope) : Prop where
  kind : sc.kind = .function
  co : sc.isCoroutine = false
  gen : sc.isGenerator = false
  nd : N.Nodup
  pre : N.take P.length = P
  par : ∀ x ∈ P, sc.names.lookup x = some .local ∨ sc.names.lookup x = some .cell
  nofree : ∀ y ∈ sc.names, y.2 ≠ .free
theorem bindL_out {kindOf : Str → Option NameKind} {x : Str} : ∀ {binds : List (Str × Value)} {m : Str → Option Value}, (∀ v, (x, v) ∉ binds) → bindL kindOf binds m x = m x
  | [], _, _ => rfl
  | (n, v) :: r, m, h => by
    unfold bindL
    rw [bindL_out fun w hw => h w (List.mem_cons_of_mem _ hw)]
    split
    · have : x ≠ n := by rintro rfl; exact h v List.mem_cons_self
      simp [this]
    · rfl
theorem bindC_out {kindOf : Str → Option NameKind} {x : Str} : ∀ {binds : List (Str × Value)} {m : Str → Option Value}, (∀ v, (x, v) ∉ binds) → bindC kindOf binds m x = m x
  | [], _, _ => rfl
  | (n, v) :: r, m, h => by
    unfold bindC
    rw [bindC_out fun w hw => h w (List.mem_cons_of_mem _ hw)]
    split
    · rfl
    · have : x ≠ n := by rintro rfl; exact h v List.mem_cons_self
      simp [this]
theorem bindL_get {kindOf : Str → Option NameKind} {x : Str} {v : Value} : ∀ {P : List Str} {vs : List Value} {i : Nat} {m : Str → Option Value}, P.Nodup → P[i]? = some x → vs[i]? = some v → kindOf x = some .local →
    bindL kindOf (P.zip vs) m x = some v
  | [], _, _, _, _, h, _, _ => by simp at h
  | _ :: _, [], _, _, _, _, h, _ => by simp at h
  | p :: P, w :: vs, 0, m, nd, h1, h2, hk => by
    simp at h1 h2; subst h1; subst h2
    show bindL kindOf ((p, w) :: P.zip vs) m p = _
    unfold bindL
    rw [bindL_out fun v hv => (List.nodup_cons.mp nd).1 (List.of_mem_zip hv).1, if_pos hk]
    simp
  | p :: P, w :: vs, i + 1, m, nd, h1, h2, hk => by
    show bindL kindOf ((p, w) :: P.zip vs) m x = _
    unfold bindL
    exact bindL_get (i := i) (List.nodup_cons.mp nd).2 (by simpa using h1) (by simpa using h2) hk
theorem bindC_get {kindOf : Str → Option NameKind} {x : Str} {v : Value} : ∀ {P : List Str} {vs : List Value} {i : Nat} {m : Str → Option Value}, P.Nodup → P[i]? = some x → vs[i]? = some v → kindOf x ≠ some .local →
    bindC kindOf (P.zip vs) m x = some v
  | [], _, _, _, _, h, _, _ => by simp at h
  | _ :: _, [], _, _, _, _, h, _ => by simp at h
  | p :: P, w :: vs, 0, m, nd, h1, h2, hk => by
    simp at h1 h2; subst h1; subst h2
    show bindC kindOf ((p, w) :: P.zip vs) m p = _
    unfold bindC
    rw [bindC_out fun v hv => (List.nodup_cons.mp nd).1 (List.of_mem_zip hv).1, if_neg hk]
    simp
  | p :: P, w :: vs, i + 1, m, nd, h1, h2, hk => by
    show bindC kindOf ((p, w) :: P.zip vs) m x = _
    unfold bindC
    exact bindC_get (i := i) (List.nodup_cons.mp nd).2 (by simpa using h1) (by simpa using h2) hk
noncomputable def start (N : List Str) (vs : List V) : St := vs.map some ++ List.replicate (N.length - vs.length) none
noncomputable def cxOf (CX : CXT) (P : Program) (w : World) (K : PySem.W.Frag) (mg : Str → Option Value) (base : Heap) (N : List Str) (qual : Str) (scope : Scope) (f : Addr) (cd : Value) (A : Around) (outer : List Env) (s : Shared) (H : Hp) (E : XK) : Cx where
  prog := P
  w := w
  K := K
  mg := mg
  base := base
  A := A.deeper (envOfC qual scope s.heap.objs.size f cd)
  N := N
  s₀ := s
  H₀ := H
  env := envOfC qual scope s.heap.objs.size f cd
  outer := outer
  stack := envOfC qual scope s.heap.objs.size f cd :: outer
  ex := []
  calm := true
  fn := fun _ => true
  pn := []
  xe := fun e s' => wpAny (model P w) (A.deeper (envOfC qual scope s.heap.objs.size f cd)) (leaving (envOfC qual scope s.heap.objs.size f cd) e) (fun _ s'' => CX outer H s E e s'') (fun e' s'' => CX outer H s E e' s'') s'
theorem cell_has {sc : Scope} {n : Nat} {x : Str} (h : sc.names.lookup x = some .cell) : ∃ c, (cellsFrom n sc.names []).lookup x = some c := by
  have q := PySem.W.cellsFrom_some sc.names n [] (.inl h)
  exact Option.isSome_iff_exists.mp q
theorem inv_start {CX : CXT} {P : Program} {w : World} {K : PySem.W.Frag} {mg : Str → Option Value} {base : Heap} {N ps : List Str} {qual : Str} {scope : Scope} {f : Addr} {cd : Value} {A : Around} {outer : List Env} {s s1 : Shared} {H : Hp} {E : XK} {us : List Value} {vs : List V}
    (S : FnScope N ps scope) (hd : A.handled = none) (e0 : Env0 P w K mg base A outer s H) (hl : vs.length = ps.length) (r : Vals vs us)
    (x : InCallC s s.heap.objs.size (bindL (envOfC qual scope s.heap.objs.size f cd).kindOf (ps.zip us) fun _ => none) (cellsFrom (s.heap.objs.size + 1) scope.names []) (bindC (envOfC qual scope s.heap.objs.size f cd).kindOf (ps.zip us) fun _ => none) s1) :
    Inv (cxOf CX P w K mg base N qual scope f cd A outer s H E) [] (start N vs) H s1 := by
  have hpl : ps.length ≤ N.length := by have := congrArg List.length S.pre; rw [List.length_take] at this; omega
  obtain ⟨h1, tk, rfl, hk⟩ := x.done
  have noA : ∀ b : Addr, b ∉ (cxOf CX P w K mg base N qual scope f cd A outer s H E).ex := fun b z => absurd (show b ∈ ([] : List Addr) from z) (by simp)
  refine ⟨⟨e0.mod, S.kind, rfl, rfl, Nat.le_refl _, fun y z c h1 h2 => ?_, fun y hy => ?_, fun y c _ h => ?_, fun _ => hd, Around.frames_deeper e0.frames, .inr ⟨rfl, rfl⟩, fun b z => absurd z (noA b), e0.bs, e0.bsz, fun b _ _ => noA b, fun b z => absurd z (noA b), e0.funs, e0.frf⟩,
    rfl, e0.bare, Un.kept hk, ⟨_, x.toInCall.ns, fun i y v h1 h2 h3 => ?_⟩, fun y c h => ⟨_, x.cell y c h⟩, e0.hok.fresh (Nat.le_refl _), fun y c h => ?_, fun p hp => absurd (show p ∈ ([] : List (Addr × Obj)) from hp) (by simp), e0.hok.kept hk, ?_⟩
  · exact name_of_addr x.apart (PySem.mem_of_lookup h1) (PySem.mem_of_lookup h2)
  · have hy : scope.names.lookup y = some .cell ∨ scope.names.lookup y = some .free := hy
    rcases hy with hy | hy
    · exact cell_has hy
    · exact absurd rfl (S.nofree _ (PySem.mem_of_lookup hy))
  · exact Nat.le_of_lt (x.above y c (PySem.mem_of_lookup h))
  · have hi : i < vs.length := by
      unfold start at h2
      by_cases hi : i < vs.length
      · exact hi
      · rw [List.getElem?_append_right (by simpa using hi)] at h2
        rw [List.getElem?_replicate] at h2
        split at h2 <;> cases h2
    have ha : vs[i]? = some v := by
      unfold start at h2
      rw [List.getElem?_append_left (by simpa using hi), List.getElem?_map] at h2
      cases e : vs[i]? with
      | none => rw [e] at h2; cases h2
      | some a => rw [e] at h2; cases h2; rfl
    obtain ⟨u, hu, rv⟩ := r.get ha
    have hp : ps[i]? = some y := by
      rw [← S.pre, List.getElem?_take_of_lt (by omega)]; exact h1
    have ndP : ps.Nodup := by rw [← S.pre]; exact S.nd.sublist (List.take_sublist _ _)
    refine ⟨u, rv, ?_⟩
    rcases S.par y (List.mem_of_getElem? hp) with k | k
    · exact .inl ⟨k, bindL_get ndP hp hu k⟩
    · obtain ⟨c, e⟩ := cell_has (n := s.heap.objs.size + 1) k
      refine .inr ⟨.inl k, c, e, ?_⟩
      have q := x.cell y c e
      rw [bindC_get ndP hp hu (by show scope.names.lookup y ≠ _; rw [k]; decide)] at q
      exact q
  · exact e0.hok.fresh (Nat.le_of_lt (x.above y c (PySem.mem_of_lookup h)))
  · unfold start
    show _ = N.length
    rw [List.length_append, List.length_map, List.length_replicate]
    omega
theorem fn_of {CX : CXT} {P : Program} {w : World} {K : PySem.W.Frag} {mg : Str → Option Value} {base : Heap} {k : Nat} {f : Addr} {name qual : Str} {params : Arguments} {body : List Stmt} {scope : Scope} {dV kV doc pm cdv ct oc : Value} {an od : Option Addr}
    {osl : Array (Option Value)} {N ps : List Str} {sp : Sp} (lk : K.lookup f = some ⟨oc, od, .func (PySem.W.fnOf name qual params body scope dV kV doc pm an cdv ct), osl⟩) (hcd : PySem.W.codeIn K cdv qual = true) (S : FnScope N ps scope)
    (len : ∀ vs H Q E, sp vs H Q E → vs.length = ps.length)
    (hbody : ∀ (A : Around) (outer : List Env) (s : Shared) (H : Hp) (vs : List V) (Q : VK) (E : XK), Room k (A.deeper (envOfC qual scope s.heap.objs.size f cdv)) → sp vs H Q E →
      ∃ t, PSs (cxOf CX P w K mg base N qual scope f cdv A outer s H E) body t ∧ t { nx := fun _ H' => Q .non H', rt := Q } (start N vs) H) :
    FnOk P w K mg base CX (k + 1) f (PySem.W.fnOf name qual params body scope dV kV doc pm an cdv ct) ps sp := by
  refine ⟨len, fun A outer s H args us vs Q E hr e0 hb r hsp => ?_⟩
  have hl := len _ _ _ _ hsp
  have KX : K.In s.heap := e0.mod.kin.keeps fun b o e => (e0.bs b o e).1
  have lim : s.heap.NoLimit := e0.mod.nolimit.keeps fun b o e => (e0.bs b o e).1
  have hkind : ∀ y ∈ ps.zip us, scope.names.lookup y.1 = some .local ∨ (scope.names.lookup y.1 = some .cell ∧ ((cellsFrom (s.heap.objs.size + 1) scope.names []).lookup y.1).isSome = true) := fun ⟨n, v⟩ hy => by
    rcases S.par n (List.of_mem_zip hy).1 with q | q
    · exact .inl q
    · exact .inr ⟨q, PySem.W.cellsFrom_some _ _ _ (.inl q)⟩
  refine codeAny_call_function hr.depth (KX _ _ lk) rfl S.co S.gen rfl (PySem.W.codeRec_of KX hcd) (hb _ _ _ _ ?_)
  refine wpAny_newFunctionEnv_cells S.kind hkind fun env he s1 x => ?_
  subst he
  refine ⟨lim.keeps x.toInCall.keep, codeAny_func ?_⟩
  obtain ⟨t, ht, hq⟩ := hbody A outer s H vs Q E (hr.deeper _) hsp
  have I : Inv (cxOf CX P w K mg base N qual scope f cdv A outer s H E) [] (start N vs) H s1 := inv_start S hr.hd e0 hl r x
  refine wpAny_mono (ht [] s1 (start N vs) H _ I hq) (fun fl s' hs => ?_) fun e s' hs => hs
  have fin : ∀ {σ' : St} {H' : Hp} {v : V} {u : Value}, Inv (cxOf CX P w K mg base N qual scope f cdv A outer s H E) [] σ' H' s' → RelV v u → Q v H' → CE outer P w H s Q u s' :=
    fun {σ' H' v u} J rv q => ⟨v, H', J.os, J.bare, J.base, J.hok, rv, q⟩
  cases fl with
  | ret u =>
    obtain ⟨v, σ', H', J, rv, q⟩ := hs
    exact fin J rv q
  | next =>
    obtain ⟨σ', H', J, q⟩ := hs
    exact fin (v := V.non) (u := Value.none) J rfl q
  | brk =>
    obtain ⟨_, _, _, q⟩ := hs
    exact False.elim q
  | cont =>
    obtain ⟨_, _, _, q⟩ := hs
    exact False.elim q
end L2
namespace L2
open PySem PySem.Spec PyProof.Rows
section
variable {X : Cx} {x : Str} {p pos : Pos} {e : Expr} {es : List Expr} {t : TA} {id T : String} {r : List V → Hp → VK → Prop}
noncomputable def tCB (r : List V → Hp → VK → Prop) (t : TA) : TE := fun σ H Q => t σ H fun vs H1 => r vs H1 Q
theorem pe_callB (hc : CallR X (.builtin id) r) (hg : Gl X x) (hm : X.mg x = none) (hv : bootBuiltins x = some (.builtin id)) (ha : PA X (e :: es) t) (hn : x ≠ "__name__" := by decide) (hdb : (x == ("__debug__" : Str)) = false := by decide)
    (he : starEach (e :: es) X.env = (false, eval e X.env) :: starEach es X.env := by rfl) (hpl : (backTo pos (starEach es X.env)).any (·.1) = false := by rfl) : PE X (.Call (.Name x p) (e :: es) [] pos) (tCB r t) := by
  intro pins s σ H Q I h
  refine wpAny_Call_Name_kw (ld_blt I hg hm hv ?_ hn hdb)
  exact PyProof.Rows.callWith_builtin1 (thn (ha pos pins s σ H _ I h) fun us s1 ⟨vs, H1, I1, r1, q1⟩ => hc pins s1 σ H1 vs us Q I1 r1 q1) he hpl
theorem pe_callTy (hc : CallR X (.type T) r) (hg : Gl X x) (hm : X.mg x = none) (hv : bootBuiltins x = some (.type T)) (ha : PA X (e :: es) t) (hn : x ≠ "__name__" := by decide) (hdb : (x == ("__debug__" : Str)) = false := by decide)
    (he : starEach (e :: es) X.env = (false, eval e X.env) :: starEach es X.env := by rfl) (hpl : (backTo pos (starEach es X.env)).any (·.1) = false := by rfl) : PE X (.Call (.Name x p) (e :: es) [] pos) (tCB r t) := by
  intro pins s σ H Q I h
  refine wpAny_Call_Name_kw (ld_blt I hg hm hv ?_ hn hdb)
  exact PyProof.Rows.callWith_type1 (thn (ha pos pins s σ H _ I h) fun us s1 ⟨vs, H1, I1, r1, q1⟩ => hc pins s1 σ H1 vs us Q I1 r1 q1) he hpl
end
end L2
namespace HT
open PySem PyProof.Rows
noncomputable def lexLt : List Int → List Int → Bool
  | [], [] => false
  | [], _ :: _ => true
  | _ :: _, [] => false
  | x :: xs, y :: ys => if x = y then lexLt xs ys else decide (x < y)
theorem lexLt_cons (x y : Int) (xs ys : List Int) : lexLt (x :: xs) (y :: ys) = if x = y then lexLt xs ys else decide (x < y) := rfl
theorem lexLt_nil_nil : lexLt [] [] = false := rfl
theorem lexLt_nil_cons (y : Int) (ys : List Int) : lexLt [] (y :: ys) = true := rfl
theorem lexLt_cons_nil (x : Int) (xs : List Int) : lexLt (x :: xs) [] = false := rfl
theorem eqAt_int (A : Around) (s : Shared) (a : Int) (t : Tok) (c : Int) (u : Tok) : ∃ e, SeqAt.EqAt A s (.int a t) (.int c u) e ∧ (e = true ↔ a = c) :=
  ⟨(a == c), SeqAt.EqAt.int_int a t c u, by simp⟩
theorem rcLt_int (A : Around) (s : Shared) (a : Int) (t : Tok) (c : Int) (u : Tok) (prog : Program) (w : World) (E : Value → Shared → Prop) (Q : Value → Shared → Prop) (h : Q (.bool (decide (a < c))) s) :
    wpAny (model prog w) A (richCompare .Lt (.int a t) (.int c u)) Q E s :=
  (PyProof.Rows.lt_int h : wpAny (model prog w) A (compareOp .Lt (.int a t) (.int c u)) Q E s)
section
open PySem.SeqAt
open PySem.AutoSeq1 (wpAny_loadPart')
open PySem.MeetsSeq PySem.MeetsSeq2 PySem.MeetsSeq3
theorem tuple_lt_ints (l b : Addr) (items items2 : Array Value) (n n2 : Nat) (dd dd2 : Option Addr) (sl sl2 : Array (Option Value)) (ns ms : List Int) (hi : IntsAre items.toList ns) (hj : IntsAre items2.toList ms) :
    Meets (Builtin.«tuple.__lt__» ⟨[.ref l, .ref b], []⟩)
      (fun _ R s => s.heap.get? l = some { cls := .type "tuple", dict := dd, data := .seq items n, slots := sl } ∧ s.heap.get? b = some { cls := .type "tuple", dict := dd2, data := .seq items2 n2, slots := sl2 } ∧
        R (.ok (.ret (.bool (lexLt ns ms)))) s) :=
  .of_wp fun prog w A R s h => by
    obtain ⟨hp, g, d, tk, os⟩ := s; obtain ⟨hl, hb, h⟩ := h
    have f2 := AutoSeq1.sub_tuple_tuple
    have z1 : items.size = ns.length := by rw [← hi.length]; simp
    have z2 : items2.size = ms.length := by rw [← hj.length]; simp
    wp_walk using wpAny_loadPart' hl, wpAny_loadPart' hb, wpAny_forIn_list _ (fun rest b s' => b.1 = none ∧ s' = ⟨hp, g, d, tk, os⟩ ∧ ∃ (vs ws : List Value) (ns' ms' : List Int), rest = vs.zip ws ∧
      IntsAre vs ns' ∧ IntsAre ws ms' ∧ ns'.length + items2.size = ms'.length + items.size ∧ R (.ok (.ret (.bool (lexLt ns' ms')))) ⟨hp, g, d, tk, os⟩) _
    case turn =>
      rintro ⟨y, x⟩ rest b s' ⟨hb', rfl, vs, ws, ns', ms', hz, hvi, hwi, hlen, hR⟩
      cases hvi with
      | nil => rw [List.zip_nil_left] at hz; cases hz
      | cons a t hvi' =>
        cases hwi with
        | nil => rw [List.zip_nil_right] at hz; cases hz
        | cons c u hwi' =>
          rw [List.zip_cons_cons] at hz
          injection hz with hyx hrest
          injection hyx with hy hx
          subst hy hx
          rw [lexLt_cons] at hR
          simp only [List.length_cons] at hlen
          obtain ⟨e, he, hiff⟩ := eqAt_int A.in1 ⟨hp, g, d, tk, os⟩ a t c u
          refine wpAny_bind (he prog w _ _ ?_)
          cases e with
          | true =>
            rw [if_pos (hiff.mp rfl)] at hR
            wp_walk
            exact ⟨rfl, rfl, _, _, _, _, hrest, hvi', hwi', by omega, hR⟩
          | false =>
            rw [if_neg (fun q => absurd (hiff.mpr q) Bool.false_ne_true)] at hR
            have hri := rcLt_int A.in1 ⟨hp, g, d, tk, os⟩ a t c u prog w
            wp_walk using hri
            exact ⟨_, rfl, by simpa using hR⟩
    case fin =>
      rintro ⟨b1, b2⟩ s' ⟨hb', rfl, vs, ws, ns', ms', hz, hvi, hwi, hlen, hR⟩
      simp only at hb'
      subst hb'
      have hv : lexLt ns' ms' = decide (items.size < items2.size) := by
        cases hvi with
        | nil =>
          cases hwi with
          | nil =>
            simp only [List.length_nil] at hlen
            rw [lexLt_nil_nil]
            exact (decide_eq_false (by omega)).symm
          | cons c u hw =>
            simp only [List.length_nil, List.length_cons] at hlen
            rw [lexLt_nil_cons]
            exact (decide_eq_true (by omega)).symm
        | cons a t hv =>
          cases hwi with
          | nil =>
            simp only [List.length_nil, List.length_cons] at hlen
            rw [lexLt_cons_nil]
            exact (decide_eq_false (by omega)).symm
          | cons c u hw =>
            rw [List.zip_cons_cons] at hz
            cases hz
      rw [hv] at hR
      wp_walk
      exact ⟨_, rfl, by simpa [Builtin.Tuple.tupleCompareSizes] using hR⟩
    case h =>
      exact ⟨rfl, rfl, items.toList, items2.toList, ns, ms, rfl, hi, hj, by omega, h⟩
end
section
variable {prog : Program} {w : World} {A : Around} {E : Value → Shared → Prop} {s : Shared}
theorem lt_tupInts {l b : Addr} {items items2 : Array Value} {ns ms : List Int} {Q : Value → Shared → Prop} (hl : IsTup s.heap l items) (hb : IsTup s.heap b items2) (hi : IntsAre items.toList ns) (hj : IntsAre items2.toList ms)
    (hu : A.units < cLine) (h : Q (.bool (lexLt ns ms)) s) : wpAny (model prog w) A (compareOp .Lt (.ref l) (.ref b)) Q E s := by
  obtain ⟨⟨cls, dd, data, sl⟩, ho, hc, n, hd⟩ := id hl
  obtain ⟨⟨cls2, dd2, data2, sl2⟩, ho2, hc2, n2, hd2⟩ := id hb
  simp only at hc hd hc2 hd2
  subst hc hd hc2 hd2
  exact richCompare_meets_room (op := .Lt) ⟨_, ho, rfl⟩ ⟨_, ho2, rfl⟩ PySem.F.slot_tuple_lt PySem.F.entry_tuple_lt (PySem.F.args_tuple_lt_2 _ _) (tuple_lt_ints l b items items2 n n2 dd dd2 sl sl2 ns ms hi hj)
    ⟨ho, ho2, show Value.bool (lexLt ns ms) ≠ Value.notImplemented ∧ Q (.bool (lexLt ns ms)) s from ⟨(fun x => nomatch x), h⟩⟩ hu
noncomputable def sIx (n d : Nat) : Option Int → Nat
  | none => d
  | some v => if v < 0 then (v + (n : Int)).toNat else min v.toNat n
end
end HT
namespace L2
open PySem PySem.Spec PyProof.Rows
noncomputable abbrev TO := St → Hp → (Option Int → Hp → Prop) → Prop
theorem intsAre_of {ns : List Int} : ∀ {us : List Value}, Vals (ns.map V.int) us → IntsAre us ns := by
  induction ns with
  | nil => intro us r; rw [List.map_nil] at r; cases r; exact .nil
  | cons n ns ih =>
    intro us r
    rw [List.map_cons] at r
    cases r with
    | cons r1 r2 =>
      obtain ⟨t, e⟩ := r1
      subst e
      exact .cons n t (ih r2)
section
variable {X : Cx} {e : Expr} {te : TE} {lo hi : Option Expr} {tl th : TO} {pos p2 : Pos}
noncomputable def SlR (X : Cx) (r : V → Option Int → Option Int → Hp → VK → Prop) : Prop :=
  ∀ (pins : List (Addr × Obj)) (s : Shared) (σ : St) (H : Hp) (x : V) (v vl vu : Value) (lo hi : Option Int) (sl : Addr) (Q : VK), Inv X pins σ H s → RelV x v → s.heap.IsSliceOf sl vl vu .none → IsPart vl lo → IsPart vu hi → r x lo hi H Q →
    ∃ T id, typeLookup (.type T) "__getitem__" = pure (some (.builtin id)) ∧ s.TypeIs v T ∧ wpAny (model X.prog X.w) X.A (getItem v (.ref sl)) (EP X pins σ Q) X.xe s
noncomputable def cutV (xs : List V) (lo hi : Option Int) : List V := (xs.drop (HT.sIx xs.length 0 lo)).take (HT.sIx xs.length xs.length hi - HT.sIx xs.length 0 lo)
theorem cutV_length (xs : List V) (lo hi : Option Int) : (cutV xs lo hi).length ≤ xs.length := by
  unfold cutV
  rw [List.length_take, List.length_drop]
  omega
noncomputable def rLtT (K : PySem.W.Frag) : R2 := fun x y H Q => ∃ a b ns ms, x = .ref a ∧ y = .ref b ∧ SqT K H a (ns.map V.int) ∧ SqT K H b (ms.map V.int) ∧ Q (.bl (HT.lexLt ns ms)) H
theorem op_ltT (hu : X.A.units < cLine) : OpR X (compareOp .Lt) (rLtT X.K) := by
  intro pins s σ H x y v u Q I rx ry h
  obtain ⟨a, b, ns, ms, rfl, rfl, ha, hb, q⟩ := h
  cases rx
  cases ry
  obtain ⟨its, r1, p1, _⟩ := I.tuple ha
  obtain ⟨its2, r2, p2, _⟩ := I.tuple hb
  have i1 : IntsAre its.toArray.toList ns := intsAre_of r1
  have i2 : IntsAre its2.toArray.toList ms := intsAre_of r2
  exact HT.lt_tupInts p1 p2 i1 i2 hu ⟨.bl (HT.lexLt ns ms), H, I, rfl, q⟩
end
end L2
namespace L2
open PySem PySem.Spec PyProof.Rows
noncomputable def ixN (n : Nat) (i : Int) : Option Nat := if 0 ≤ i then (if i < n then some i.toNat else none) else if -(n : Int) ≤ i then some (i + n).toNat else none
noncomputable def atI {α : Type} (xs : List α) (i : Int) : Option α := (ixN xs.length i).bind fun j => xs[j]?
theorem ixN_seq {n : Nat} {i : Int} {j : Nat} (h : ixN n i = some j) : seqIndex? i n = some j ∧ j < n ∧ -(n : Int) ≤ i ∧ i < n := by
  unfold ixN at h
  by_cases h0 : 0 ≤ i
  · rw [if_pos h0] at h
    by_cases h1 : i < n
    · rw [if_pos h1] at h
      have e : i.toNat = j := Option.some.inj h
      exact ⟨by rw [seqIndex_of h0 h1, e], by omega, by omega, h1⟩
    · rw [if_neg h1] at h; cases h
  · rw [if_neg h0] at h
    by_cases h1 : -(n : Int) ≤ i
    · rw [if_pos h1] at h
      have e : (i + n).toNat = j := Option.some.inj h
      exact ⟨by rw [seqIndex_neg (by omega) h1, e], by omega, h1, by omega⟩
    · rw [if_neg h1] at h; cases h
theorem atI_get {α : Type} {xs : List α} {i : Int} {v : α} (h : atI xs i = some v) : ∃ j, seqIndex? i xs.length = some j ∧ xs[j]? = some v ∧ j < xs.length ∧ -(xs.length : Int) ≤ i ∧ i < xs.length := by
  unfold atI at h
  cases e : ixN xs.length i with
  | none => rw [e] at h; cases h
  | some j =>
    rw [e] at h
    obtain ⟨h1, h2, h3, h4⟩ := ixN_seq e
    exact ⟨j, h1, h, h2, h3, h4⟩
noncomputable def PlainIx (b : Expr) : Prop := ∀ o i, subscripted b false o i = operate [o, i] (getItem o i)
noncomputable def IxR (X : Cx) (r : R2) : Prop :=
  ∀ (value slice : Expr) (pins : List (Addr × Obj)) (s : Shared) (σ : St) (H : Hp) (x y : V) (v u : Value) (Q : VK), Inv X pins σ H s → RelV x v → RelV y u → r x y H Q →
    subscripted slice false v u = operate [v, u] (getItem v u) → wpAny (model X.prog X.w) X.A (subscriptTail value slice v u) (EP X pins σ Q) X.xe s
noncomputable def MtR (X : Cx) (id : String) (r : V → List V → Hp → VK → Prop) : Prop :=
  ∀ (pins : List (Addr × Obj)) (s : Shared) (σ : St) (H : Hp) (x : V) (xs : List V) (v : Value) (us : List Value) (Q : VK), Inv X pins σ H s → RelV x v → Vals xs us → r x xs H Q →
    wpAny (model X.prog X.w) X.A (call (.builtin id) (v :: us)) (EP X pins σ Q) X.xe s
section
variable {X : Cx} {a b : Expr} {ta tb : TE} {pos : Pos}
theorem pe_ix {r : R2} (hr : IxR X r) (ha : PE X a ta) (hb : PE X b tb) (hs : PlainIx b) : PE X (.Subscript a b pos) (tOp r ta tb) := by
  intro pins s σ H Q I h
  exact Subscript_ (binT ha hb I h fun v u s2 x y H2 I2 rx ry q => hr a b pins s2 σ H2 x y v u Q I2 rx ry q (hs _ _))
noncomputable def rIxL (K : PySem.W.Frag) : R2 := fun x y H Q => ∃ p xs i v, x = .ref p ∧ y = .int i ∧ SqL K H p xs ∧ atI xs i = some v ∧ Q v H
noncomputable def rIxT (K : PySem.W.Frag) : R2 := fun x y H Q => ∃ p xs i v, x = .ref p ∧ y = .int i ∧ SqT K H p xs ∧ atI xs i = some v ∧ Q v H
theorem ix_list : IxR X (rIxL X.K) := by
  intro value slice pins s σ H x y v u Q I rx ry h hs
  obtain ⟨p, xs, i, z, rfl, rfl, hq, he, q⟩ := h
  cases rx
  obtain ⟨t, rfl⟩ := ry
  obtain ⟨its, r, pl, hz⟩ := I.list hq
  obtain ⟨j, h1, h2, h3, h4, h5⟩ := atI_get he
  obtain ⟨w, ew, rw'⟩ := r.get h2
  have hl := r.length
  have hn := line63
  have fin : EP X pins σ Q w s := ⟨z, H, I, rw', q⟩
  by_cases h0 : 0 ≤ i
  · have hj : i.toNat = j := by
      rw [seqIndex_of h0 h5] at h1
      exact Option.some.inj h1
    exact item_listR pl.isList h0 (by omega) (by rw [hj]; simpa using ew) fin hs
  · have hj : (i + (its.toArray.size : Int)).toNat = j := by
      rw [seqIndex_neg (by omega) h4] at h1
      rw [List.size_toArray, ← hl]
      exact Option.some.inj h1
    exact subscriptTail_builtinR (x := w) pl.isList.typeIs slot_list_getitem.lookup
      (wpAny_getItem_list_neg (Q := fun r s' => r = w ∧ EP X pins σ Q r s') pl.isList (by omega) (by rw [List.size_toArray] <;> omega) (by omega) (by rw [hj]; simpa using ew) ⟨rfl, fin⟩) hs
theorem ix_tup : IxR X (rIxT X.K) := by
  intro value slice pins s σ H x y v u Q I rx ry h hs
  obtain ⟨p, xs, i, z, rfl, rfl, hq, he, q⟩ := h
  cases rx
  obtain ⟨t, rfl⟩ := ry
  obtain ⟨its, r, pl, hz⟩ := I.tuple hq
  obtain ⟨j, h1, h2, h3, h4, h5⟩ := atI_get he
  obtain ⟨w, ew, rw'⟩ := r.get h2
  have hl := r.length
  have hn := line63
  have fin : EP X pins σ Q w s := ⟨z, H, I, rw', q⟩
  exact subscriptTail_builtinR (x := w) pl.typeIs slot_tuple_getitem.lookup
    (getItem_tuple (j := j) (Q := fun r s' => r = w ∧ EP X pins σ Q r s') pl (by omega) (by omega) (by rw [List.size_toArray, ← hl]; exact h1) (by simpa using ew) ⟨rfl, fin⟩) hs
theorem mapSeq_set (its : List Value) (n j : Nat) (u : Value) : Obj.mapSeq (·.setIfInBounds j u) { cls := .type "list", data := .seq its.toArray n } = { cls := .type "list", data := .seq (its.set j u).toArray n } := by
  simp [Obj.mapSeq]
theorem Inv.lst {pins : List (Addr × Obj)} {σ : St} {H : Hp} {s : Shared} {p : Addr} {xs : List V} (I : Inv X pins σ H s) (h : H p = some (.lst xs)) :
    ∃ (its : List Value) (n : Nat), Vals xs its ∧ s.heap.get? p = some { cls := .type "list", data := .seq its.toArray n } ∧ xs.length ≤ sizeLine := by
  obtain ⟨z, its, n, r, e⟩ := I.hok p _ h
  exact ⟨its, n, r, e, z⟩
theorem Inv.lstUpd {pins : List (Addr × Obj)} {σ : St} {H : Hp} {s : Shared} {p : Addr} {xs ys : List V} {its its' : List Value} {n n' : Nat} {f : Obj → Obj} (I : Inv X pins σ H s) (h : H p = some (.lst xs))
    (ho : s.heap.get? p = some { cls := .type "list", data := .seq its.toArray n }) (hf : f { cls := .type "list", data := .seq its.toArray n } = { cls := .type "list", data := .seq its'.toArray n' }) (r : Vals ys its') (hz : ys.length ≤ sizeLine) (t : Nat) :
    Inv X pins σ (upd H p (.lst ys)) { s with heap := s.heap.update p f, toks := t } := by
  have e : (s.heap.update p f).get? p = some { cls := .type "list", data := .seq its'.toArray n' } := by
    rw [Heap.get?_update_self f ho (by rw [hf] <;> rfl), hf]
  refine I.write (x := p) (e := p) (by rw [h]; trivial) (.inl rfl) (fun b u hb q => (Heap.get?_update_other _ _ (Ne.symm hb)).trans q) ⟨_, e⟩ ?_
  exact ⟨hz, its', n', r, e⟩
noncomputable def rSetL : V → V → V → Hp → (Hp → Prop) → Prop := fun o i v H Q => ∃ p xs k j, o = .ref p ∧ i = .int k ∧ H p = some (.lst xs) ∧ ixN xs.length k = some j ∧ Q (upd H p (.lst (xs.set j v)))
theorem set_list : PSet X rSetL := by
  intro pins s σ H o i v ov iv u Q I ro ri rv h
  obtain ⟨p, xs, k, j, rfl, rfl, hp, hj, q⟩ := h
  cases ro
  obtain ⟨t, rfl⟩ := ri
  obtain ⟨its, n, r, ho, hz⟩ := I.lst hp
  obtain ⟨h1, h2, h3, h4⟩ := ixN_seq hj
  have hl := r.length
  have hn := line63
  have I' : Inv X pins σ (upd H p (.lst (xs.set j v))) { s with heap := s.heap.update p (Obj.mapSeq (·.setIfInBounds j u)) } :=
    I.lstUpd hp ho (mapSeq_set its n j u) (r.set rv j) (by rw [List.length_set]; exact hz) s.toks
  by_cases h0 : 0 ≤ k
  · have hk : k.toNat = j := by
      rw [seqIndex_of h0 h4] at h1
      exact Option.some.inj h1
    exact PySem.W.ki_setAt ho h0 (by omega) (by rw [List.size_toArray, ← hl]; exact h4) (by rw [hk]; exact ⟨_, I', q⟩)
  · have hk : (k + (its.toArray.size : Int)).toNat = j := by
      rw [seqIndex_neg (by omega) h3] at h1
      rw [List.size_toArray, ← hl]
      exact Option.some.inj h1
    exact PySem.W.ki_setBack ho (by omega) (by rw [List.size_toArray, ← hl]; exact h3) (by omega) (by rw [hk]; exact ⟨_, I', q⟩)
theorem slice_bounds (lo hi : Option Int) (n : Nat) : (sliceBounds lo hi none n).1 = ((HT.sIx n 0 lo : Nat) : Int) ∧ (sliceBounds lo hi none n).2.1 = ((HT.sIx n n hi : Nat) : Int) ∧ (sliceBounds lo hi none n).2.2 = 1 := by
  refine ⟨?_, ?_, rfl⟩
  · cases lo with
    | none => simp [sliceBounds, HT.sIx]
    | some i =>
      simp only [sliceBounds, HT.sIx, Option.getD_none, show (1 : Int) > 0 by decide, if_true]
      by_cases h : i < 0
      · simp only [h, if_true] <;> omega
      · simp only [h, if_false] <;> omega
  · cases hi with
    | none => simp [sliceBounds, HT.sIx]
    | some i =>
      simp only [sliceBounds, HT.sIx, Option.getD_none, show (1 : Int) > 0 by decide, if_true]
      by_cases h : i < 0
      · simp only [h, if_true] <;> omega
      · simp only [h, if_false] <;> omega
theorem slicePick_cut (its : List Value) (lo hi : Option Int) : slicePick its.toArray lo hi none = ((its.drop (HT.sIx its.length 0 lo)).take (HT.sIx its.length its.length hi - HT.sIx its.length 0 lo)).toArray := by
  obtain ⟨h1, h2, h3⟩ := slice_bounds lo hi its.toArray.size
  unfold slicePick
  rw [h1, h2, h3]
  simp only [sliceRange_one, pick_run, List.size_toArray] <;> rfl
noncomputable def rSlL (K : PySem.W.Frag) : V → Option Int → Option Int → Hp → VK → Prop := fun x lo hi H Q => ∃ a xs, x = .ref a ∧ SqL K H a xs ∧ ∀ p, H p = none → Q (.ref p) (upd H p (.lst (cutV xs lo hi)))
theorem sl_list : SlR X (rSlL X.K) := by
  intro pins s σ H x v vl vu lo hi sl Q I rx hs pl pu h
  obtain ⟨a, xs, rfl, hx, q⟩ := h
  cases rx
  obtain ⟨its, r, ht, hz⟩ := I.list hx
  have hlen := r.length
  refine ⟨"list", _, slot_list_getitem.lookup, ht.isList.typeIs, ?_⟩
  refine wpAny_getItem_list_slice ht.isList hs pl pu .none (by simp) ?_ (by rw [List.size_toArray] <;> omega)
  rw [slicePick_cut, ← hlen]
  refine ⟨.ref s.heap.objs.size, _, I.laid (t' := s.toks) (o := .lst (cutV xs lo hi)) (fun b ob q => Heap.get?_push_of_some _ q) (Nat.le_refl _) ?_, rfl, q _ (I.hok.fresh (Nat.le_refl _))⟩
  exact ⟨Nat.le_trans (cutV_length xs lo hi) hz, _, 0, (r.drop (HT.sIx xs.length 0 lo)).take (HT.sIx xs.length xs.length hi - HT.sIx xs.length 0 lo), Heap.get?_push_size _ rfl⟩
theorem call_len_seq : CallR X (.builtin "len") (fun xs H Q => ∃ p ys, xs = [.ref p] ∧ (SqL X.K H p ys ∨ SqT X.K H p ys) ∧ Q (.int ys.length) H) := by
  intro pins s σ H xs us Q I r h
  obtain ⟨p, ys, rfl, hq, q⟩ := h
  obtain ⟨u, rfl, rx⟩ := vals1 r
  cases rx
  have hn := line63
  rcases hq with hq | hq
  · obtain ⟨its, r', pl, hz⟩ := I.list hq
    have hlen := r'.length
    exact Calls.call_len_list pl.isList (by simp only [List.size_toArray] <;> omega) ⟨.int ys.length, H, I.tok _, ⟨s.toks + 1, by rw [List.size_toArray, hlen]⟩, q⟩
  · obtain ⟨its, r', pl, hz⟩ := I.tuple hq
    have hlen := r'.length
    exact len_tuple pl (by simp only [List.size_toArray] <;> omega) ⟨.int ys.length, H, I.tok _, ⟨s.toks + 1, by rw [List.size_toArray, hlen]⟩, q⟩
theorem call_list_of : CallR X (.type "list") (fun xs H Q => ∃ p ys, xs = [.ref p] ∧ (SqL X.K H p ys ∨ SqT X.K H p ys) ∧ ∀ l, H l = none → Q (.ref l) (upd H l (.lst ys))) := by
  intro pins s σ H xs us Q I r h
  obtain ⟨p, ys, rfl, hq, q⟩ := h
  obtain ⟨u, rfl, rx⟩ := vals1 r
  cases rx
  have fin : ∀ (its : List Value), Vals ys its → ys.length ≤ sizeLine → ∀ (h' : Heap) (c' : Nat), (∀ b o', s.heap.get? b = some o' → h'.get? b = some o') →
      h'.get? s.heap.objs.size = some { cls := .type "list", dict := none, data := .seq its.toArray c', slots := #[] } → EP X pins σ Q (.ref s.heap.objs.size) { s with heap := h' } := fun its r' hz h' c' kp e =>
    ⟨.ref s.heap.objs.size, _, I.laid (t' := s.toks) kp (Nat.le_refl _) (show ObjOk X.prog X.w _ h' _ (.lst ys) from ⟨hz, its, c', r', e⟩), rfl, q _ (I.hok.fresh (Nat.le_refl _))⟩
  rcases hq with hq | hq
  · obtain ⟨its, r', pl, hz⟩ := I.list hq
    have hlen := r'.length
    obtain ⟨o, ho, hc, n, hd⟩ := pl.isList
    exact call_list_seq p (.inl rfl) ho hc hd (fun h' c' kp e => fin its r' hz h' c' kp e) (by simp only [List.size_toArray] <;> omega)
  · obtain ⟨its, r', pl, hz⟩ := I.tuple hq
    have hlen := r'.length
    obtain ⟨o, ho, hc, n, hd⟩ := pl
    exact call_list_seq p (.inr rfl) ho hc hd (fun h' c' kp e => fin its r' hz h' c' kp e) (by simp only [List.size_toArray] <;> omega)
theorem call_tuple_of : CallR X (.type "tuple") (fun xs H Q => ∃ p ys, xs = [.ref p] ∧ ((SqL X.K H p ys ∧ ∀ l, H l = none → Q (.ref l) (upd H l (.tup ys))) ∨ (SqT X.K H p ys ∧ Q (.ref p) H))) := by
  intro pins s σ H xs us Q I r h
  obtain ⟨p, ys, rfl, h⟩ := h
  obtain ⟨u, rfl, rx⟩ := vals1 r
  cases rx
  rcases h with ⟨hq, q⟩ | ⟨hq, q⟩
  · obtain ⟨its, r', pl, hz⟩ := I.list hq
    have hlen := r'.length
    refine call_tuple_list pl.isList (fun h' kp => ?_) (by simp only [List.size_toArray] <;> omega)
    have I1 : Inv X pins σ H { s with heap := h' } := I.kept (t' := s.toks) kp
    have I2 : Inv X pins σ (upd H h'.objs.size (.tup ys)) { s with heap := h'.push { cls := .type "tuple", data := .seq its.toArray } } :=
      I1.laid (t' := s.toks) (fun b o e => Heap.get?_push_of_some _ e) (Nat.le_refl _) (show ObjOk X.prog X.w _ _ _ (.tup ys) from ⟨hz, its, r', IsTup.new _ _⟩)
    exact ⟨.ref h'.objs.size, _, I2, rfl, q _ (I1.hok.fresh (Nat.le_refl _))⟩
  · obtain ⟨its, r', pl, hz⟩ := I.tuple hq
    exact call_tuple_same pl ⟨.ref p, H, I, rfl, q⟩
noncomputable def tyV (K : PySem.W.Frag) (T : String) (x : V) (H : Hp) : Prop := match x with
  | .str _ => T = "str"
  | .int _ => T = "int"
  | .ref p => (T = "list" ∧ ∃ xs, SqL K H p xs) ∨ (T = "tuple" ∧ ∃ o, K.lookup p = some o ∧ o.cls = .type "tuple" ∧ o.dict = none) ∨
      (T = "dict" ∧ ((∃ kvs, H p = some (.dK kvs)) ∨ ∃ kvs, H p = some (.dT kvs))) ∨ (T = "set" ∧ ∃ S n, H p = some (.set S n))
  | _ => False
theorem tyV_is {pins : List (Addr × Obj)} {σ : St} {H : Hp} {s : Shared} {T : String} {x : V} {v : Value} (I : Inv X pins σ H s) (r : RelV x v) (ty : tyV X.K T x H) :
    s.TypeIs v T ∧ ∀ a, v = .ref a → ∃ ob, s.heap.get? a = some ob ∧ ob.dict = none := by
  cases x with
  | str z =>
    obtain ⟨t, rfl⟩ := r
    cases (show T = "str" from ty)
    exact ⟨typeIs_str s z t, fun _ e => nomatch e⟩
  | int i =>
    obtain ⟨t, rfl⟩ := r
    cases (show T = "int" from ty)
    exact ⟨typeIs_int s i t, fun _ e => nomatch e⟩
  | ref p =>
    cases r
    rcases ty with ⟨rfl, xs, hq⟩ | ⟨rfl, o, hk, hc, hd⟩ | ⟨rfl, hk⟩ | ⟨rfl, S, n, hk⟩
    · obtain ⟨its, _, pl, _⟩ := I.list hq
      refine ⟨pl.isList.typeIs, fun a e => ?_⟩
      cases e
      obtain ⟨o, n, e, c, hd, _⟩ := pl
      exact ⟨o, e, hd⟩
    · refine ⟨⟨o, I.kIn p o hk, hc⟩, fun a e => ?_⟩
      cases e
      exact ⟨o, I.kIn _ o hk, hd⟩
    · have z : ∃ o, s.heap.get? p = some o ∧ o.ExactDict := by
        rcases hk with ⟨kvs, hk⟩ | ⟨kvs, hk⟩
        · obtain ⟨_, _, _, _, o, _, _, e, ex, _⟩ := I.hok p _ hk
          exact ⟨o, e, ex⟩
        · obtain ⟨_, _, _, _, o, _, _, e, ex, _⟩ := I.hok p _ hk
          exact ⟨o, e, ex⟩
      obtain ⟨o, e, ex⟩ := z
      refine ⟨⟨o, e, ex.1⟩, fun a e2 => ?_⟩
      cases e2
      exact ⟨o, e, ex.2.1⟩
    · obtain ⟨o, _, _, _, e, ex, _⟩ := I.hok p _ hk
      refine ⟨⟨o, e, ex.1⟩, fun a e2 => ?_⟩
      cases e2
      exact ⟨o, e, ex.2.1⟩
  | _ => exact False.elim ty
noncomputable def tBM (K : PySem.W.Frag) (T : String) (r : V → List V → Hp → VK → Prop) (to : TE) (t : TA) : TE := fun σ H Q => to σ H fun x H1 => tyV K T x H1 ∧ t σ H1 fun xs H2 => r x xs H2 Q
variable {o e : Expr} {es : List Expr} {to : TE} {t : TA} {name : Str} {apos cpos : Pos} {T id : String} {r : V → List V → Hp → VK → Prop}
theorem pe_bm (pa : PlainAttrs T) (slot : Slot T name id) (hty : typeOf (.builtin id) = pure (.type "method_descriptor")) (hm : MtR X id r) (ho : PE X o to) (ha : PA X (e :: es) t)
    (hbase : attributeBase o name X.env (eval o X.env) = eval o X.env := by rfl)
    (hfew : ((backTo cpos (starEach (e :: es) X.env)).all (fun x => !x.1) && (backToKw cpos (keywordEach [] X.env)).all (fun x => x.1.isSome)
      && decide ((e :: es).length + ([] : List Keyword).length + (if ([] : List Keyword).isEmpty then 0 else 1) < 30)) = true := by rfl)
    (hline : (apos.endLine == cpos.line) = true := by rfl) (hs : starEach (e :: es) X.env = (false, eval e X.env) :: starEach es X.env := by rfl) (hplain : (backTo cpos (starEach es X.env)).any (·.1) = false := by rfl) :
    PE X (.Call (.Attribute o name apos) (e :: es) [] cpos) (tBM X.K T r to t) := by
  intro pins s σ H Q I h
  refine wpAny_Call_method_late hbase hfew hline rfl (thn (ho pins s σ H _ I h) fun v s1 ⟨x, H1, I1, r1, ty, q1⟩ => ?_)
  obtain ⟨h1, h2⟩ := tyV_is I1 r1 ty
  refine ⟨T, id, pa, slot, hty, h1, h2, ?_⟩
  have hA := ha cpos pins s1 σ H1 _ I1 q1
  rw [hs] at hA ⊢
  refine Calls.callWith_builtin (by show (false || (backTo cpos (starEach es X.env)).any (·.1)) = false; rw [hplain] <;> rfl) (Calls.evalArgs_plain ?_)
  exact thn hA fun us s2 ⟨vs, H2, I2, r2, q2⟩ => hm pins s2 σ H2 x vs v us Q I2 r1 r2 q2
end
end L2
namespace L2
open PySem PySem.Spec PyProof.Rows
noncomputable def MtM (X : Cx) (id : String) (r : V → List V → Hp → VK → Prop) : Prop :=
  ∀ (pins : List (Addr × Obj)) (s : Shared) (σ : St) (H : Hp) (x : V) (xs : List V) (v : Value) (us : List Value) (Q : VK), Inv X pins σ H s → RelV x v → Vals xs us → r x xs H Q →
    wpAny (model X.prog X.w) X.A (call (.builtin id) (v :: us)) (EP X pins σ Q) X.xe s
theorem Vals.one : ∀ {x : V} {us : List Value}, Vals [x] us → ∃ u, us = [u] ∧ RelV x u
  | _, _, .cons r .nil => ⟨_, rfl, r⟩
theorem Vals.reverse {xs : List V} {us : List Value} (h : Vals xs us) : Vals xs.reverse us.reverse := by
  induction h with
  | nil => exact .nil
  | cons r t ih => rw [List.reverse_cons, List.reverse_cons]; exact Vals.append ih (.cons r .nil)
section
variable {X : Cx} {pins : List (Addr × Obj)} {σ : St} {H : Hp} {s : Shared} {l b : Addr} {xs ys zs : List V}
theorem Inv.lset {its its' : List Value} {n : Nat} {f : Array Value → Array Value} {t' : Nat} (I : Inv X pins σ H s) (hH : H l = some (.lst xs))
    (e : s.heap.get? l = some { cls := .type "list", data := .seq its.toArray n }) (hf : f its.toArray = its'.toArray) (hv : Vals ys its') (hz : ys.length ≤ sizeLine) :
    Inv X pins σ (upd H l (.lst ys)) { s with heap := s.heap.update l (Obj.mapSeq f), toks := t' } := by
  have q := PySem.IsL.update e f
  rw [hf] at q
  refine I.write (x := l) (e := l) (by rw [hH]; exact trivial) (.inl rfl) (fun b' u hb hu => (Heap.get?_update_other s.heap (Obj.mapSeq f) (Ne.symm hb)).trans hu) ⟨_, q⟩ ?_
  exact ⟨hz, its', _, hv, q⟩
theorem Inv.lnew {its : List Value} {t' : Nat} (I : Inv X pins σ H s) (hv : Vals ys its) (hz : ys.length ≤ sizeLine) :
    Inv X pins σ (upd H s.heap.objs.size (.lst ys)) { s with heap := s.heap.push { cls := .type "list", data := .seq its.toArray }, toks := t' } :=
  I.laid (fun _ _ q => Heap.get?_push_of_some _ q) (Nat.le_refl _) ⟨hz, its, 0, hv, Heap.get?_push_size _ rfl⟩
theorem Inv.fresh (I : Inv X pins σ H s) : H s.heap.objs.size = none := I.hok.fresh (Nat.le_refl _)
theorem Inv.lstM (I : Inv X pins σ H s) (hH : H l = some (.lst xs)) : xs.length ≤ sizeLine ∧ ∃ (its : List Value) (n : Nat), Vals xs its ∧ xs.length = its.length ∧ s.heap.get? l = some { cls := .type "list", data := .seq its.toArray n } := by
  obtain ⟨z, its, n, r, e⟩ := I.hok l _ hH
  exact ⟨z, its, n, r, r.length, e⟩
theorem notLongL {n : Nat} (h : n ≤ sizeLine) : Builtin.List.listTooLong n = false := by
  unfold Builtin.List.listTooLong
  exact decide_eq_false (by omega)
end
section
variable {X : Cx}
noncomputable def rAppend : V → List V → Hp → VK → Prop := fun x vs H Q => ∃ l xs y, x = .ref l ∧ vs = [y] ∧ H l = some (.lst xs) ∧ xs.length < sizeLine ∧ Q .non (upd H l (.lst (xs ++ [y])))
theorem mt_append : MtM X "list.append" rAppend := by
  intro pins s σ H x vs v us Q I rx rv h
  obtain ⟨l, xs, y, rfl, rfl, hH, hz, q⟩ := h
  cases rx
  obtain ⟨u, rfl, ru⟩ := rv.one
  obtain ⟨z, its, n, r, hl, e⟩ := I.lstM hH
  refine call_meets F.slot_list_append ⟨_, e, rfl⟩ F.entry_list_append (F.args_list_append_2 _ _) (PySem.list_append l its.toArray n u (by rw [List.size_toArray]; omega)) ⟨e, ?_⟩
  refine ⟨.non, _, I.lset (its' := its ++ [u]) hH e (by simp) (r.append (.cons ru .nil)) ?_, rfl, q⟩
  rw [List.length_append, List.length_singleton]
  omega
noncomputable def rExtend : V → List V → Hp → VK → Prop := fun x vs H Q => ∃ l b xs zs, x = .ref l ∧ vs = [.ref b] ∧ H l = some (.lst xs) ∧ H b = some (.lst zs) ∧ xs.length + zs.length ≤ sizeLine ∧ Q .non (upd H l (.lst (xs ++ zs)))
theorem mt_extend : MtM X "list.extend" rExtend := by
  intro pins s σ H x vs v us Q I rx rv h
  obtain ⟨l, b, xs, zs, rfl, rfl, hH, hB, hz, q⟩ := h
  cases rx
  obtain ⟨u, rfl, ru⟩ := rv.one
  cases ru
  obtain ⟨z, its, n, r, hl, e⟩ := I.lstM hH
  obtain ⟨z2, its2, n2, r2, hl2, e2⟩ := I.lstM hB
  have hsz : its.toArray.size + its2.toArray.size ≤ sizeLine := by rw [List.size_toArray, List.size_toArray]; omega
  have hlong : ¬ (!its.toArray.isEmpty && Builtin.List.listTooLong (its.toArray.size + its2.toArray.size)) = true := by
    rw [notLongL hsz, Bool.and_false]
    exact Bool.false_ne_true
  refine call_meets F.slot_list_extend ⟨_, e, rfl⟩ F.entry_list_extend (F.args_list_extend_2 _ _)
    (AutoSeq1.list_extend_list_list_0 l its.toArray n b its2.toArray n2 hlong (by rw [List.size_toArray]; omega) (by omega)) ⟨e, e2, ?_⟩
  refine ⟨.non, _, I.lset (its' := its ++ its2) hH e (by simp) (r.append r2) ?_, rfl, q⟩
  rw [List.length_append]
  omega
noncomputable def rCat : R2 := fun x y H Q => ∃ l b xs zs, x = .ref l ∧ y = .ref b ∧ H l = some (.lst xs) ∧ H b = some (.lst zs) ∧ xs.length + zs.length ≤ sizeLine ∧ ∀ p, H p = none → Q (.ref p) (upd H p (.lst (xs ++ zs)))
theorem op_cat : OpR X (binaryOp .Add) rCat := by
  intro pins s σ H x y v u Q I rx ry h
  obtain ⟨l, b, xs, zs, rfl, rfl, hH, hB, hz, q⟩ := h
  cases rx
  cases ry
  obtain ⟨z, its, n, r, hl, e⟩ := I.lstM hH
  obtain ⟨z2, its2, n2, r2, hl2, e2⟩ := I.lstM hB
  refine PySem.P.add_list e e2 ?_ (by rw [List.size_toArray, List.size_toArray]; omega)
  have ea : its.toArray ++ its2.toArray = (its ++ its2).toArray := by simp
  rw [ea]
  exact ⟨.ref _, _, I.lnew (t' := s.toks) (r.append r2) (by rw [List.length_append]; omega), rfl, q _ I.fresh⟩
end
section
variable {prog : Program} {w : World} {A : Around} {E : Value → Shared → Prop} {s : Shared}
end
section
variable {X : Cx}
end
end L2
namespace Att
open PySem PySem.W PySem.Calls PyProof.Rows
theorem ints_of_wellAll {P : Params} {h : Heap} : ∀ (ns : List Int) (vs : List Value), WellAll P h vs (ns.map WData.int) → IntsAre vs ns := by
  intro ns
  induction ns with
  | nil =>
    intro vs w
    rw [List.map_nil] at w
    cases w
    exact .nil
  | cons n ns ih =>
    intro vs w
    rw [List.map_cons] at w
    cases w with
    | cons a b =>
      cases a
      exact .cons _ _ (ih _ b)
theorem script_of {l : OpenLaw} {n : Nat} (hn : l.most = some n) {P : Params} {h : Heap} {args : List WData} {vals : List Value}
    (hpre : l.row.toRowW.claim.pre args = true) (hwl : WellAll P h vals args) :
    ∃ a vs ns, vals = [Value.ref a] ∧ args = [WData.list (ns.map WData.int)] ∧ h.get? a = some { cls := .type "list", data := .seq vs.toArray } ∧ IntsAre vs ns ∧ ns.length ≤ n := by
  have hsh : WShape.hasAll [] args [.list .int] = true := (pre_splitW hpre).1
  have hc : l.pre.holds [] { args := args } = true := (pre_splitW hpre).2
  obtain ⟨d, r, rfl, h1, h2⟩ := hasAllW_cons hsh
  obtain rfl := hasAllW_nil h2
  obtain ⟨xs, rfl, h3⟩ := hasW_list h1
  obtain ⟨ns, rfl⟩ := items_int h3
  have hlen : ns.length ≤ n := by
    unfold OpenLaw.pre at hc
    have h4 : (WTm.not (.lt (.lit (.int (n : Int))) (.len (.arg 0)))).holds [] { args := [.list (ns.map .int)] } = true := by
      have h4 := (holds_andW hc).1
      rw [hn] at h4
      exact h4
    have h5 := condW_of h4 (w_not (w_lt w_lit (w_len_list (w_arg rfl))))
    rw [List.length_map] at h5
    refine Nat.le_of_not_lt fun q => ?_
    have q' : (n : Int) < ((ns.length : Nat) : Int) := by omega
    first
      | (rw [decide_eq_true q'] at h5; exact absurd h5 (by decide))
      | (simp at h5; omega)
  cases hwl with
  | cons w1 w2 =>
    cases w2
    cases w1 with
    | list ho hall => exact ⟨_, _, ns, rfl, rfl, ho, ints_of_wellAll ns _ hall, hlen⟩
theorem post_true (l : OpenLaw) (args : List WData) : l.row.toRowW.claim.post args (.bool true) args = true :=
  postW_of (r := l.row.toRowW) (X := (true == true))
    (show WShape.has [] (.bool true) .bool = true by first | rfl | decide | simp [WShape.has, WShape.arms, WShape.armsAll])
    (show (WTm.eq .res (.lit (.bool true))).value [] { args := args, res := some (.bool true), after := args } = some (.bool (true == true)) from w_eq_bool (w_res rfl) w_lit) rfl
section
variable {prog : Program} {w : World} {A : Around} {E : Value → Shared → Prop} {s : Shared} {K : Frag}
end
end Att
namespace L2
open PySem PySem.Spec PyProof.Rows
theorem vals_ints : ∀ {vs : List Value} {ns : List Int}, IntsAre vs ns → Vals (ns.map V.int) vs
  | _, _, .nil => .nil
  | _, _, .cons n t h => .cons ⟨t, rfl⟩ (vals_ints h)
noncomputable def Only (H : Hp) : Prop := ∀ b, H b = none ∨ ∃ o xs, H b = some (.frz o (.lst xs))
theorem law_call {P : Program} {w : World} {K : PySem.W.Frag} {mg mb : Str → Option Value} {CX : CXT} {k : Nat} {fa a : Addr} {fd : FuncData} {x : Str} {sp : Sp} {s₁ : Shared} {vs : List Value} {ns : List Int}
    (KX : K.In s₁.heap) (hns : s₁.heap.Ns mainGlobals mg) (hb : s₁.heap.Ns builtinsNs mb) (hbb : ∀ x : Str, x ≠ "__name__" → mb x = bootBuiltins x) (hlim : s₁.heap.NoLimit) (hg : s₁.gens = #[])
    (ha : s₁.heap.get? a = some { cls := .type "list", data := .seq vs.toArray }) (hi : IntsAre vs ns) (hl : ns.length ≤ sizeLine) (hr : Room k callerA)
    (F : ∀ base : Heap, K.In base → base.Ns mainGlobals mg → FnOk P w K mg base CX k fa fd [x] sp) (hbind : ∀ (s : Shared) (u : Value), BindsTo s fd ⟨[u], []⟩ [(x, u)])
    (hsp : ∀ H : Hp, Only H → SqL K H a (ns.map V.int) → sp [.ref a] H (fun v _ => v = .bl true) fun _ _ _ => False)
    (hCX : ∀ H e s', CX [] H s₁ (fun _ _ _ => False) e s' → False) :
    codeAny (model P w) callerA (.call (.ref fa) ⟨[.ref a], []⟩) (fun r s' => r = .ok (.ret (.bool true)) ∧ OldK s₁.heap s'.heap ∧ s'.os = s₁.os ∧ AllBare s'.gens) s₁ := by
  have rv := vals_ints hi
  have lenV := hi.length
  have core : ∀ H : Hp, Only H → SqL K H a (ns.map V.int) → HOk P w H s₁.heap → (∀ b, H b ≠ none → b = a) → (H a ≠ none → K.lookup a = none) →
      codeAny (model P w) callerA (.call (.ref fa) ⟨[.ref a], []⟩) (fun r s' => r = .ok (.ret (.bool true)) ∧ OldK s₁.heap s'.heap ∧ s'.os = s₁.os ∧ AllBare s'.gens) s₁ := by
    intro H hO hS hok hA hK
    have base_of : ∀ {b : Addr} {o : Obj}, s₁.heap.get? b = some o → H b = none → (hidT s₁.heap H).get? b = some o := fun e n => hidT_get e n
    have noA : ∀ {b : Addr} {o : Obj} {es : Array DictEntry} {ep : Nat}, s₁.heap.get? b = some o → o.data = .dict es ep → H b = none := fun {b o es ep} e d => by
      cases q : H b with
      | none => rfl
      | some u =>
        have e' : b = a := hA b (by rw [q]; simp)
        subst e'
        rw [ha] at e; cases e
        have d' : Data.seq vs.toArray _ = Data.dict es ep := d
        cases d'
    have nsK : ∀ {b : Addr} {m : Str → Option Value}, s₁.heap.Ns b m → (hidT s₁.heap H).Ns b m := fun {b m} ⟨o, es, ep, e, d, r⟩ => ⟨o, es, ep, base_of e (noA e d), d, r⟩
    have hKb : K.In (hidT s₁.heap H) := fun b o e => base_of (KX b o e) (by
      cases q : H b with
      | none => rfl
      | some u =>
        have e' : b = a := hA b (by rw [q]; simp)
        subst e'
        rw [hK (by rw [q]; simp)] at e; cases e)
    have hM : Mod K mg (hidT s₁.heap H) := ⟨hKb, nsK hns, ⟨mb, nsK hb, hbb⟩, let ⟨mc, h1, h2⟩ := hlim; ⟨mc, nsK h1, h2⟩⟩
    have e0 : Env0 P w K mg (hidT s₁.heap H) callerA [] s₁ H := ⟨rfl, hM, fun b o e => of_hidT e, Nat.le_of_eq (hidT_size _ _), trivial, fun b hb => absurd (show b ∈ ([] : List Addr) from hb) (by simp), hok, .of_eq hg⟩
    refine codeAny_mono ((F _ hKb (nsK hns)).run callerA [] s₁ H ⟨[.ref a], []⟩ [.ref a] [.ref a] _ _ hr e0 (hbind s₁ (.ref a)) (.cons rfl .nil) (hsp H hO hS)) fun r s' h => ?_
    cases r with
    | error e => exact (hCX H e s' h).elim
    | ok fl =>
      cases fl with
      | next => exact False.elim h
      | brk => exact False.elim h
      | cont => exact False.elim h
      | ret u =>
        obtain ⟨v, H', os, bare, un, hok', r', q⟩ := h
        have q' : v = .bl true := q
        subst q'
        obtain rfl : u = Value.bool true := r'
        refine ⟨rfl, OldK.of_keep fun b o e => ?_, os, bare⟩
        cases q : H b with
        | none => exact un.keep b o e q (by intro z; exact absurd (show b ∈ ([] : List Addr) from z) (by simp)) (by simp)
        | some u =>
          rcases hO b with z | ⟨ob, xs, z⟩
          · rw [q] at z; cases z
          · have z2 := un.frzs b ob _ z
            obtain ⟨e1, _⟩ := hok b _ z
            obtain ⟨e2, _⟩ := hok' b _ z2
            rw [e] at e1; cases e1
            exact e2
  cases hk : K.lookup a with
  | some o =>
    have e := KX a o hk
    rw [ha] at e
    cases e
    refine core (fun _ => none) (fun _ => .inl rfl) (.inr ⟨_, vs.toArray, _, hk, rfl, rfl, rfl, by rw [List.size_toArray, lenV]; exact hl, by simpa using rv⟩) (fun b u z => by have z' : (none : Option HO) = some u := z; cases z') (fun b z => absurd rfl z) fun z => absurd rfl z
  | none =>
    refine core (fun b => if b = a then some (.frz { cls := .type "list", data := .seq vs.toArray } (.lst (ns.map V.int))) else none) (fun b => ?_) (.inl (.inr ⟨{ cls := .type "list", data := .seq vs.toArray }, if_pos rfl⟩)) (fun b u z => ?_) (fun b z => ?_) fun _ => hk
    · by_cases hb : b = a
      · exact .inr ⟨_, _, if_pos hb⟩
      · exact .inl (if_neg hb)
    · by_cases hb : b = a
      · have z' := (if_pos hb).symm.trans z
        cases z'
        subst hb
        exact ⟨ha, by rw [List.length_map]; exact hl, vs, _, rv, ha⟩
      · have z' := (if_neg hb).symm.trans z
        cases z'
    · by_cases hb : b = a
      · exact hb
      · exact absurd (if_neg hb) z
end L2
namespace L2
open PySem PySem.Spec PyProof.Rows
end L2
namespace L2
open PySem PySem.Spec PyProof.Rows
noncomputable def defArgs (s : Stmt) : Arguments := match s with
  | .FunctionDef _ a _ _ _ _ _ _ _ _ => a
  | _ => { posonlyargs := [], args := [], vararg := none, kwonlyargs := [], kw_defaults := [], kwarg := none, defaults := [] }
noncomputable def defBody (s : Stmt) : List Stmt := match s with
  | .FunctionDef _ _ b _ _ _ _ _ _ _ => b
  | _ => []
noncomputable def defScope (s : Stmt) : Scope := match s with
  | .FunctionDef _ _ _ _ _ _ sc _ _ _ => sc
  | _ => { kind := .function, names := [], isGenerator := false, isCoroutine := false }
noncomputable abbrev CX0 : CXT := fun _ _ _ _ _ _ => False
noncomputable abbrev E0 : XK := fun _ _ _ => False
theorem pass0 {X : Cx} : Passes CX0 X E0 := fun _ _ _ _ _ _ _ h => h.elim
structure Fun (K : PySem.W.Frag) (x qual : Str) (st : Stmt) (f : Addr) (fd : FuncData) : Prop where
  ex : ∃ (oc : Value) (od : Option Addr) (kV doc pm : Value) (an : Option Addr) (cdv ct : Value) (osl : Array (Option Value)),
    fd = PySem.W.fnOf x qual (defArgs st) (defBody st) (defScope st) .none kV doc pm an cdv ct ∧ K.lookup f = some ⟨oc, od, .func fd, osl⟩ ∧ PySem.W.codeIn K cdv qual = true
  kp : PySem.W.keepIn K (.ref f) = true
section
variable {P : Program} {w : World} {K : PySem.W.Frag} {mg : Str → Option Value} {base : Heap}
theorem Fun.ok {x qual : Str} {st : Stmt} {f : Addr} {fd : FuncData} {N ps : List Str} {k : Nat} {sp : Sp} (F : Fun K x qual st f fd) (S : FnScope N ps (defScope st)) (len : ∀ vs H Q E, sp vs H Q E → vs.length = ps.length)
    (hbody : ∀ (cdv : Value) (A : Around) (outer : List Env) (s : Shared) (H : Hp) (vs : List V) (Q : VK) (E : XK), Room k (A.deeper (envOfC qual (defScope st) s.heap.objs.size f cdv)) → sp vs H Q E →
      ∃ t, PSs (cxOf CX0 P w K mg base N qual (defScope st) f cdv A outer s H E).nox (defBody st) t ∧ t { nx := fun _ H' => Q .non H', rt := Q } (start N vs) H) : FnOk P w K mg base CX0 (k + 1) f fd ps sp := by
  obtain ⟨oc, od, kV, doc, pm, an, cdv, ct, osl, rfl, lk, hcd⟩ := F.ex
  refine fn_of lk hcd S len fun A outer s H vs Q E hr hsp => ?_
  obtain ⟨t, h, q⟩ := hbody cdv A outer s H vs Q E hr hsp
  exact ⟨t, h.nox, q⟩
theorem Fun.binds {x qual : Str} {st : Stmt} {f : Addr} {fd : FuncData} {ps : List Str} (F : Fun K x qual st f fd)
    (h : ∀ (kV doc pm : Value) (an : Option Addr) (cdv ct : Value) (us : List Value), us.length = ps.length → bindArgs (PySem.W.fnOf x qual (defArgs st) (defBody st) (defScope st) .none kV doc pm an cdv ct) ⟨us, []⟩ = pure (ps.zip us)) : Binds K fd ps [] := by
  obtain ⟨oc, od, kV, doc, pm, an, cdv, ct, osl, rfl, lk, hcd⟩ := F.ex
  exact .all (h kV doc pm an cdv ct)
theorem fun_mk {x qual : Str} {st : Stmt} {f : Addr} {oc : Value} {od an : Option Addr} {osl : Array (Option Value)} {kV doc pm cdv ct : Value} (l : K.lookup f = some ⟨oc, od, .func (PySem.W.fnOf x qual (defArgs st) (defBody st) (defScope st) .none kV doc pm an cdv ct), osl⟩)
    (c : PySem.W.codeIn K cdv qual = true) (k : PySem.W.keepIn K (.ref f) = true) : Fun K x qual st f (PySem.W.fnOf x qual (defArgs st) (defBody st) (defScope st) .none kV doc pm an cdv ct) := ⟨⟨oc, od, kV, doc, pm, an, cdv, ct, osl, rfl, l, c⟩, k⟩
end
theorem small1000 {n : Nat} (h : n ≤ 1000) : n < sizeLine := Nat.lt_of_le_of_lt h (by decide)
section
variable {X : Cx}
end
theorem ite2 {c A B : Prop} [Decidable c] (h1 : c → A) (h2 : ¬ c → B) : if c then A else B := by
  by_cases h : c
  · rw [if_pos h]
    exact h1 h
  · rw [if_neg h]
    exact h2 h
noncomputable def Same (H H' : Hp) : Prop := ∀ b o, H b = some o → H' b = some o
theorem Same.refl (H : Hp) : Same H H := fun _ _ h => h
theorem Same.trans {H H1 H2 : Hp} (a : Same H H1) (b : Same H1 H2) : Same H H2 := fun c o h => b c o (a c o h)
end L2
end

section
set_option Elab.async false
set_option linter.all false
set_option maxRecDepth 100000
set_option maxHeartbeats 1000000
namespace L2
open PySem PySem.Spec PyProof.Rows
section
variable {prog : Program} {w : World} {A : Around} {R : Result → Shared → Prop} {s : Shared}
theorem compLoop_any {elt target iter : Expr} {ifs : List Expr} {scope : Scope} {pos : Pos} {it acc : Value} {env : Env} (I : Nat → Shared → Prop)
    (turn : ∀ n s, I n s → wpAny (model prog w) A (pyNext it) (fun r s₁ => match r with
      | none => R (.ok .next) s₁
      | some v => wpAny (model prog w) A (letOwnedTupleGo target it v) (fun _ s₁ => wpAny (model prog w) A (assign target env v) (fun _ s₂ =>
          wpAny (model prog w) A (forIn ifs true fun c r => if r = true then do let ok ← isTrue c env (eval c env); pure (ForInStep.yield ok) else pure (ForInStep.yield r)) (fun ok s₃ =>
            if ok = true then wpAny (model prog w) A (eval elt env) (fun x s₄ =>
              wpAny (model prog w) A (call (.builtin "list.append") [acc, x]) (fun _ s₅ => ∃ m, m < n ∧ I m s₅) (fun _ _ => False) s₄) (fun _ _ => False) s₃
            else ∃ m, m < n ∧ I m s₃) (fun _ _ => False) s₂) (fun _ _ => False) s₁) (fun _ _ => False) s₁) (fun _ _ => False) s)
    (n : Nat) (h : I n s) :
    codeAny (model prog w) A (.compLoop (.ListComp elt [⟨target, iter, ifs, 0⟩] scope pos) 0 it acc env) R s := by
  refine codeAny_loop rfl I (fun n s hI => ?_) n h
  show wpAny _ A ((compTurn (.ListComp elt [⟨target, iter, ifs, 0⟩] scope pos) 0 it acc env).onRaise (fun x => do noteFrame x env; theTreesLotGoes x)) _ _ s
  refine wpAny_noted ?_
  rw [compTurn_list]
  refine wpAny_bind (wpAny_standAt (wpAny_bind (wpAny_mono (turn n s hI) (fun r s₁ h₁ => ?_) fun _ _ h' => h'.elim)))
  cases r with
  | none => exact wpAny_pure h₁
  | some v =>
    refine wpAny_bind (wpAny_mono h₁ (fun _ s₁ h₁ => ?_) fun _ _ h' => h'.elim)
    refine wpAny_bind (wpAny_mono h₁ (fun _ s₂ h₂ => wpAny_bind (wpAny_mono h₂ (fun ok s₃ h₃ => ?_) fun _ _ h' => h'.elim)) fun _ _ h' => h'.elim)
    cases ok with
    | false => exact wpAny_pure ⟨rfl, h₃⟩
    | true =>
      exact wpAny_bind (wpAny_bind (wpAny_mono h₃ (fun x s₄ h₄ => wpAny_bind (wpAny_mono h₄ (fun _ s₅ h₅ => wpAny_pure (wpAny_pure ⟨rfl, h₅⟩)) fun _ _ h' => h'.elim)) fun _ _ h' => h'.elim))
end
noncomputable def clOf (cells : List (Str × Addr)) : List (Str × NameKind) → List (Str × Addr) → List (Str × Addr)
  | [], acc => acc
  | (n, k) :: r, acc => clOf cells r (if k == .free then match cells.lookup n with | some c => (n, c) :: acc | none => acc else acc)
theorem closureFor_go {env : Env} : ∀ (names : List (Str × NameKind)) (acc : List (Str × Addr)), (∀ y ∈ names, y.2 = .free → ∃ c, env.cells.lookup y.1 = some c) →
    (forIn names acc (fun (x : Str × NameKind) (cs : List (Str × Addr)) => (if x.2 == .free then (do let a ← cellOf env x.1; pure (ForInStep.yield ((x.1, a) :: cs))) else pure (ForInStep.yield cs) : Sem (ForInStep (List (Str × Addr)))))) = pure (clOf env.cells names acc)
  | [], acc, _ => rfl
  | (n, k) :: r, acc, h => by
    rw [List.forIn_cons]
    have hr := fun a => closureFor_go r a fun y hy => h y (List.mem_cons_of_mem _ hy)
    by_cases hk : k = .free
    · subst hk
      obtain ⟨c, e⟩ := h (n, .free) List.mem_cons_self rfl
      have ec : cellOf env n = pure c := by unfold cellOf; rw [e]
      simp only [beq_self_eq_true, if_true, ec, clOf, e]
      exact hr _
    · have hb : (k == NameKind.free) = false := by simpa using hk
      simp only [hb, Bool.false_eq_true, if_false, clOf]
      exact hr _
theorem closureFor_eq {scope : Scope} {env : Env} (h : ∀ y ∈ scope.names, y.2 = .free → ∃ c, env.cells.lookup y.1 = some c) : closureFor scope env = pure (clOf env.cells scope.names []) := by
  have q := closureFor_go (env := env) scope.names [] h
  unfold closureFor
  show (forIn scope.names [] _ >>= fun cs => pure cs) = _
  first
    | (rw [show (forIn scope.names [] _ : Sem (List (Str × Addr))) = _ from q]; rfl)
    | (erw [q]; rfl)
end L2
end

section
set_option Elab.async false
set_option linter.all false
set_option maxRecDepth 100000
set_option maxHeartbeats 2000000
namespace L2
open PySem PySem.Spec PyProof.Rows
noncomputable def maskS (y : Str) : Str := ⟨#[0] ++ y.cps⟩
noncomputable def maskN (own N : List Str) : List Str := own ++ N.map fun y => if own.contains y then maskS y else y
noncomputable def cxComp (X : Cx) (own : List Str) (scope : Scope) (C : Addr) (fp : List Addr) (s : Shared) (H : Hp) : Cx :=
  { X with N := maskN own X.N, s₀ := s, H₀ := H, env := compEnvC scope (clOf X.env.cells scope.names []) C X.env, outer := X.stack, stack := X.stack, ex := fp, fn := fun x => own.contains x, pn := [], xe := fun _ _ => False }
structure CompScope (own N : List Str) (sc scope : Scope) : Prop where
  nd : (maskN own N).Nodup
  kind : scope.kind = .function
  nocell : ∀ y ∈ scope.names, y.2 ≠ .cell
  loc : ∀ y ∈ scope.names, y.2 = .local → scope.names.lookup y.1 = some .local
  fr : ∀ y ∈ scope.names, y.2 = .free → scope.names.lookup y.1 = some .free
  up : ∀ y ∈ scope.names, y.2 = .free → sc.names.lookup y.1 = some .cell ∨ sc.names.lookup y.1 = some .free
  ow : ∀ x ∈ own, scope.names.lookup x = some .local
  mask : ∀ x ∈ own, scope.names.lookup (maskS x) = none
  only : ∀ y ∈ scope.names, y.2 = .local → y.1 ∈ own ∨ y.1 ∉ N
theorem lookup_mem {β : Type} : ∀ {l : List (Str × β)} {x : Str} {k : β}, l.lookup x = some k → (x, k) ∈ l
  | [], _, _, h => by simp at h
  | (n, k') :: r, x, k, h => by
    rw [List.lookup_cons] at h
    by_cases e : x = n
    · subst e; simp at h; subst h; exact List.mem_cons_self
    · have : (x == n) = false := by simpa using e
      rw [this] at h
      exact List.mem_cons_of_mem _ (lookup_mem h)
theorem clOf_spec {cells : List (Str × Addr)} : ∀ (names : List (Str × NameKind)) (acc : List (Str × Addr)) (x : Str) (c : Addr), (clOf cells names acc).lookup x = some c → (cells.lookup x = some c ∧ (x, NameKind.free) ∈ names) ∨ acc.lookup x = some c
  | [], acc, x, c, h => .inr h
  | (n, k) :: r, acc, x, c, h => by
    rw [clOf] at h
    rcases clOf_spec r _ x c h with ⟨h1, h2⟩ | h1
    · exact .inl ⟨h1, List.mem_cons_of_mem _ h2⟩
    · by_cases hk : k = .free
      · subst hk
        simp only [beq_self_eq_true, if_true] at h1
        cases e : cells.lookup n with
        | none => rw [e] at h1; exact .inr h1
        | some c' =>
          rw [e] at h1
          dsimp only at h1
          rw [List.lookup_cons] at h1
          by_cases ex : x = n
          · subst ex; simp at h1; subst h1; exact .inl ⟨e, List.mem_cons_self⟩
          · have : (x == n) = false := by simpa using ex
            rw [this] at h1; exact .inr h1
      · have hb : (k == NameKind.free) = false := by simpa using hk
        rw [hb] at h1; exact .inr h1
theorem clOf_acc {cells : List (Str × Addr)} : ∀ (names : List (Str × NameKind)) (acc : List (Str × Addr)) (x : Str), (acc.lookup x).isSome = true → ((clOf cells names acc).lookup x).isSome = true
  | [], acc, x, h => h
  | (n, k) :: r, acc, x, h => by
    rw [clOf]
    refine clOf_acc r _ x ?_
    split
    · split
      · rw [List.lookup_cons]; split
        · rfl
        · exact h
      · exact h
    · exact h
theorem clOf_has {cells : List (Str × Addr)} : ∀ (names : List (Str × NameKind)) (acc : List (Str × Addr)) (x : Str) (c : Addr), (x, NameKind.free) ∈ names → cells.lookup x = some c → ((clOf cells names acc).lookup x).isSome = true
  | (n, k) :: r, acc, x, c, hm, e => by
    rw [clOf]
    rcases List.mem_cons.mp hm with z | z
    · cases z
      refine clOf_acc r _ _ ?_
      simp [e]
    · exact clOf_has r _ x c z e
section
variable {X : Cx} {own : List Str} {scope : Scope} {C : Addr} {fp : List Addr} {s : Shared} {H : Hp}
theorem relabel_lookup {env : Env} : ∀ {names : List (Str × NameKind)} {x : Str} {k : NameKind},
    (names.map fun (n, k) => if (k == NameKind.free && env.scope.kind == .function && env.kindOf n == some .cell) then (n, NameKind.cell) else (n, k)).lookup x = some k →
    ∃ k', names.lookup x = some k' ∧ (k = k' ∨ (k = .cell ∧ k' = .free))
  | [], _, _, h => by simp at h
  | (n, k0) :: r, x, k, h => by
    have ih := @relabel_lookup env r x k
    rw [List.map_cons] at h
    by_cases ex : x = n
    · subst ex
      refine ⟨k0, by simp, ?_⟩
      dsimp only at h
      split at h
      · rename_i hc
        simp at h
        have : k0 = .free := by
          simp only [Bool.and_eq_true, beq_iff_eq] at hc
          exact hc.1.1
        exact .inr ⟨h.symm, this⟩
      · simp at h; exact .inl h.symm
    · have hb : (x == n) = false := by simpa using ex
      have h2 : (r.map fun (n, k) => if (k == NameKind.free && env.scope.kind == .function && env.kindOf n == some .cell) then (n, NameKind.cell) else (n, k)).lookup x = some k := by
        dsimp only at h
        split at h <;> (rw [List.lookup_cons, hb] at h; exact h)
      obtain ⟨k', e, q⟩ := ih h2
      exact ⟨k', by rw [List.lookup_cons, hb]; exact e, q⟩
theorem relabel_local {env : Env} {x : Str} : (relabel scope env).names.lookup x = some .local → scope.names.lookup x = some .local := fun h => by
  obtain ⟨k', e, q⟩ := relabel_lookup (env := env) h
  rcases q with q | ⟨q, _⟩
  · rw [e, ← q]
  · cases q
theorem relabel_cf {env : Env} {x : Str} (nc : ∀ y ∈ scope.names, y.2 ≠ .cell) : ((relabel scope env).names.lookup x = some .cell ∨ (relabel scope env).names.lookup x = some .free) → scope.names.lookup x = some .free := fun h => by
  rcases h with h | h
  · obtain ⟨k', e, q⟩ := relabel_lookup (env := env) h
    rcases q with q | ⟨_, q⟩
    · rw [← q] at e; exact absurd rfl (nc _ (lookup_mem e))
    · rw [e, q]
  · obtain ⟨k', e, q⟩ := relabel_lookup (env := env) h
    rcases q with q | ⟨q, _⟩
    · rw [e, ← q]
    · cases q
theorem cxComp_ok {pins : List (Addr × Obj)} {σ : St} (S : CompScope own X.N X.env.scope scope) (I : Inv X pins σ H s) (hC : s.heap.objs.size ≤ C) (hf : ∀ b ∈ fp, FpOk X pins H b) (ho : ∀ b ∈ fp, ∃ o, s.heap.get? b = some o) : (cxComp X own scope C fp s H).Ok := by
  have cl : ∀ x c, (clOf X.env.cells scope.names []).lookup x = some c → X.env.cells.lookup x = some c ∧ (x, NameKind.free) ∈ scope.names := fun x c e => by
    rcases clOf_spec _ _ _ _ e with q | q
    · exact q
    · simp at q
  refine ⟨I.ok.mod, S.kind, I.ok.glob, I.ok.blt, hC, fun x y c h1 h2 => I.ok.inj x y c (cl x c h1).1 (cl y c h2).1, fun x hx => ?_, fun x c h1 h2 => ?_, I.ok.hd, I.ok.frames, .inl rfl, fun b hb => ⟨?_, fun x c e => (hf b hb).2.2.2.2.1 x c (cl x c e).1⟩, I.bs, Nat.le_trans I.ok.bsz I.sz, fun b o e hb => ?_, fun b hb z => ?_, I.stack, I.stkFree⟩
  · have hx' : ((relabel scope X.env).names.lookup x = some .cell ∨ (relabel scope X.env).names.lookup x = some .free) := hx
    have q := relabel_cf S.nocell hx'
    have m := lookup_mem q
    obtain ⟨c, e⟩ := I.ok.has x (by rcases S.up _ m rfl with z | z; exact .inl z; exact .inr z)
    exact Option.isSome_iff_exists.mp (clOf_has scope.names [] x c m e)
  · have h1' : own.contains x = true := h1
    have m := (cl x c h2).2
    have l := S.ow x (by simpa using h1')
    rw [S.fr _ m rfl] at l; cases l
  · obtain ⟨o, e⟩ := ho b hb
    exact Nat.ne_of_lt (Nat.lt_of_lt_of_le (Heap.lt_size e) hC)
  · rcases (hf b hb).2.2.2.1 with z | z
    · exact I.ok.noex b o e z
    · exact absurd (Nat.lt_of_lt_of_le (Heap.lt_size e) (Nat.le_trans I.ok.bsz z)) (Nat.lt_irrefl _)
  · have z' : b ∈ frs X.stack := z
    rcases List.mem_cons.mp (I.stkSub b z') with q | q
    · exact (hf b hb).2.1 q
    · exact (hf b hb).2.2.1 q
theorem cxComp_inv {pins : List (Addr × Obj)} {σ : St} {h' : Heap} {t' : Nat} {m : Str → Option Value} {H' : Hp} (S : CompScope own X.N X.env.scope scope) (I : Inv X pins σ H s) (hC : s.heap.objs.size ≤ C) (hf : ∀ b ∈ fp, FpOk X pins H b) (ho : ∀ b ∈ fp, ∃ o, s.heap.get? b = some o)
    (hk : ∀ b o, s.heap.get? b = some o → h'.get? b = some o) (hn : h'.Ns C m) (hU : Un (frs X.stack) fp H H' s.heap h') (hok : HOk X.prog X.w H' h') (hC0 : H' C = none) (hle : ∀ b, b < s.heap.objs.size → H' b = H b) :
    Inv (cxComp X own scope C fp s H) [] (List.replicate own.length none ++ σ) H' { s with heap := h', toks := t' } := by
  have cl : ∀ x c, (clOf X.env.cells scope.names []).lookup x = some c → X.env.cells.lookup x = some c ∧ (x, NameKind.free) ∈ scope.names := fun x c e => by
    rcases clOf_spec _ _ _ _ e with q | q
    · exact q
    · simp at q
  refine ⟨cxComp_ok S I hC hf ho, rfl, I.bare, hU, ⟨m, hn, fun i x v h1 h2 h3 => ?_⟩, fun x c e => ?_, hC0, fun x c e => ?_, fun p hp => ?_, hok, ?_⟩
  · have h1' : (maskN own X.N)[i]? = some x := h1
    by_cases hi : i < own.length
    · rw [List.getElem?_append_left (by simpa using hi), List.getElem?_replicate] at h2
      split at h2 <;> cases h2
    · rw [List.getElem?_append_right (by simpa using hi), List.length_replicate] at h2
      unfold maskN at h1'
      rw [List.getElem?_append_right (by simpa using hi), List.getElem?_map] at h1'
      cases ey : X.N[i - own.length]? with
      | none => rw [ey] at h1'; cases h1'
      | some y =>
        rw [ey] at h1'
        have ex : (if own.contains y then maskS y else y) = x := by simpa using h1'
        have h3' : (relabel scope X.env).names.lookup x = some .local ∨ (relabel scope X.env).names.lookup x = some .cell ∨ (relabel scope X.env).names.lookup x = some .free := h3
        by_cases hyo : own.contains y = true
        · rw [if_pos hyo] at ex
          subst ex
          have none := S.mask y (by simpa using hyo)
          rcases h3' with z | z
          · rw [relabel_local z] at none; cases none
          · rw [relabel_cf S.nocell z] at none; cases none
        · rw [if_neg hyo] at ex
          subst ex
          rcases h3' with z | z
          · rcases S.only _ (lookup_mem (relabel_local z)) rfl with q | q
            · exact absurd (by simpa using q) hyo
            · exact absurd (List.mem_of_getElem? ey) q
          · have q := relabel_cf S.nocell z
            have mm := lookup_mem q
            have up := S.up _ mm rfl
            obtain ⟨m0, _, hl⟩ := I.loc
            obtain ⟨u, r, l⟩ := hl _ y v ey h2 (.inr up)
            refine ⟨u, r, .inr ⟨z, ?_⟩⟩
            rcases l with ⟨k, _⟩ | ⟨k, c, e, ic⟩
            · have k' : X.env.scope.names.lookup y = some .local := k
              rcases up with u1 | u1 <;> (rw [u1] at k'; cases k')
            · obtain ⟨c', e'⟩ := Option.isSome_iff_exists.mp (clOf_has scope.names [] y c mm e)
              have e2 := (cl y c' e').1
              rw [e] at e2; cases e2
              obtain ⟨o, g1, g2⟩ := ic
              exact ⟨c, e', o, hk _ _ g1, g2⟩
  · obtain ⟨v, o, g1, g2⟩ := I.cell x c (cl x c e).1
    exact ⟨v, o, hk _ _ g1, g2⟩
  · obtain ⟨v, o, g1, g2⟩ := I.cell x c (cl x c e).1
    rw [hle c (Heap.lt_size g1)]
    exact I.freeC x c (cl x c e).1
  · exact absurd (show p ∈ ([] : List (Addr × Obj)) from hp) (by simp)
  · show (List.replicate own.length none ++ σ).length = (maskN own X.N).length
    unfold maskN
    rw [List.length_append, List.length_append, List.length_replicate, List.length_map, I.len]
theorem Inv.behind {pins : List (Addr × Obj)} {σ σ' : St} {pins' : List (Addr × Obj)} {H' : Hp} {s' : Shared} (I : Inv X pins σ H s) (hf : ∀ b ∈ fp, FpOk X pins H b) (J : Inv (cxComp X own scope C fp s H) pins' σ' H' s') : Inv X pins σ H' s' := by
  refine I.call' J.os J.base J.hok J.bare fun b hb => ?_
  obtain ⟨h0, h1, h2, h3, h4, h5⟩ := hf b hb
  exact ⟨h3, h1, h4, h5⟩
end
end L2
end

section
set_option Elab.async false
set_option linter.all false
set_option maxRecDepth 100000
set_option maxHeartbeats 2000000
namespace L2
open PySem PySem.Spec PyProof.Rows
noncomputable def PTs (Y : Cx) (ifs : List Expr) (t : TT) : Prop :=
  ∀ (pins : List (Addr × Obj)) (s : Shared) (σ : St) (H : Hp) (Q : Bool → Hp → Prop), Inv Y pins σ H s → t σ H Q →
    wpAny (model Y.prog Y.w) Y.A (forIn ifs true fun c r => if r = true then do let ok ← isTrue c Y.env (eval c Y.env); pure (ForInStep.yield ok) else pure (ForInStep.yield r)) (TP Y pins σ Q) Y.xe s
noncomputable def tAll : TT := fun _ H Q => Q true H
theorem pts_nil {Y : Cx} : PTs Y [] tAll := fun _ _ _ H _ I h => wpAny_tests_nil ⟨H, I, h⟩
theorem pts_one {Y : Cx} {c : Expr} {t : TT} (h : PT Y c t) : PTs Y [c] t := fun pins s σ H Q I q => wpAny_tests_one (h pins s σ H Q I q)
noncomputable def CompW (no : Nat) (J : It) (g : TG) (tt : TT) (te : TE) (σ : St) (H1 : Hp) (Q : VK) : Prop := ∀ D, H1 D = none →
  ∃ W : Nat → Nat → St → Hp → Prop, (∃ m, W 0 m (List.replicate no none ++ σ) (upd H1 D (.lst []))) ∧ ∀ i m σ' H', W i m σ' H' →
    (J.stop i H' ∧ Q (.ref D) H') ∨ (J.go i H' ∧ ∀ x H2, J.yld i H' x H2 → g x σ' H2 fun σ3 H3 => tt σ3 H3 fun b H4 =>
      if b = true then te σ3 H4 fun v H5 => ∃ xs, H5 D = some (.lst xs) ∧ xs.length < sizeLine ∧ ∃ m', m' < m ∧ W (i + 1) m' σ3 (upd H5 D (.lst (xs ++ [v]))) else ∃ m', m' < m ∧ W (i + 1) m' σ3 H4)
noncomputable def tCompB (no : Nat) (wi : TI) (g : TG) (tt : TT) (te : TE) : TE := fun σ H Q => wi σ H fun J H1 => CompW no J g tt te σ H1 Q
section
variable {X : Cx} {own : List Str} {scope : Scope} {elt tg iter : Expr} {ifs : List Expr} {pos : Pos} {wi : TI} {g : TG} {tt : TT} {te : TE}
theorem comp_block {pins : List (Addr × Obj)} {σ : St} {H : Hp} {s : Shared} {it : Addr} {fp : List Addr} {tn : Nat → Heap → Prop} {J : It} {Q : VK} {RR : Value → Addr → Result → Shared → Prop} {E : Value → Shared → Prop}
    (hc : X.calm = true) (S : CompScope own X.N X.env.scope scope)
    (hg : ∀ C fp s H, PG (cxComp X own scope C fp s H) tg g) (ht : ∀ C fp s H, PTs (cxComp X own scope C fp s H) ifs tt) (he : ∀ C fp s H, PE (cxComp X own scope C fp s H) elt te)
    (I : Inv X pins σ H s) (T : Turn X.prog X.w X.K tg J fp it tn) (st : tn 0 s.heap) (hf : ∀ b ∈ fp, FpOk X pins H b)
    (h : CompW own.length J g tt te σ H Q)
    (hRR : ∀ D C s' H' m, Inv X pins σ H' s' → s'.heap.Ns C m → H' C = none → s.heap.objs.size ≤ C → Q (.ref D) H' → RR (.ref D) C (.ok .next) s') :
    wpAny (model X.prog X.w) X.A (newList []) (fun acc s₃ => wpAny (model X.prog X.w) X.A (newFunctionEnv scope X.env.globals (clOf X.env.cells scope.names []) [] X.env.qual none .none (some X.env)) (fun cenv s₄ =>
      codeAny (model X.prog X.w) X.A (.compStart (.ListComp elt [⟨tg, iter, ifs, 0⟩] scope pos) 0 (.ref it) acc { cenv with scope := relabel scope X.env }) (RR acc cenv.locals) s₄) E s₃) E s := by
  refine wpAny_newObj_type (wpAny_newFunctionEnv S.nocell (by intro y hy; simp at hy) (fun h₁ hns₁ hsb₁ => ?_) S.kind)
  dsimp only at hns₁ hsb₁ ⊢
  generalize hH2 : s.heap.push { cls := .type "list", dict := none, data := .seq ([] : List Value).toArray } = H2 at hns₁ hsb₁ ⊢
  have hC : H2.objs.size = s.heap.objs.size + 1 := by rw [← hH2, Heap.size_push]
  have hDC : s.heap.objs.size ≠ H2.objs.size := by rw [hC]; exact Nat.ne_of_lt (Nat.lt_succ_self _)
  have hCle : s.heap.objs.size ≤ H2.objs.size := by rw [hC]; exact Nat.le_succ _
  have below : ∀ b, b < s.heap.objs.size → b ≠ H2.objs.size := fun b hb => by rw [hC]; exact Nat.ne_of_lt (Nat.lt_succ_of_lt hb)
  have old : ∀ b o, s.heap.get? b = some o → h₁.get? b = some o := fun b o e => hsb₁.extBut b o (below b (Heap.lt_size e)) (Heap.get?_push_of_some _ (hH2 ▸ Heap.get?_push_of_some _ e))
  have hacc : h₁.get? s.heap.objs.size = some { cls := .type "list", dict := none, data := .seq ([] : List Value).toArray } := hsb₁.extBut _ _ hDC (Heap.get?_push_of_some _ (hH2 ▸ Heap.get?_push_size _ rfl))
  have ho : ∀ b ∈ fp, ∃ o, s.heap.get? b = some o := fun b hb => let ⟨o, e, _⟩ := T.obj _ _ st b hb; ⟨o, e⟩
  have fresh : ∀ a, s.heap.objs.size ≤ a → H a = none := fun a ha => I.hok.fresh ha
  generalize hD : s.heap.objs.size = D at *
  generalize hCC : H2.objs.size = C at *
  have I1 : Inv (cxComp X own scope C fp s H) [] (List.replicate own.length none ++ σ) (upd H D (.lst [])) { s with heap := h₁, toks := s.toks + ([] : List (Str × Value)).length } := by
    refine cxComp_inv S I (by rw [hD]; exact hCle) hf ho old hns₁ (Un.laid old (by rw [hD]; exact Nat.le_refl _) (fresh D (Nat.le_refl _))) (I.hok.laid old (by rw [hD]; exact Nat.le_refl _) ?_) ?_ fun b hb => ?_
    · exact ⟨Nat.zero_le _, [], 0, .nil, hacc⟩
    · rw [upd_ne (Ne.symm hDC)]; exact fresh C hCle
    · rw [hD] at hb; rw [upd_ne (Nat.ne_of_lt hb)]
  obtain ⟨W, ⟨m0, w0⟩, turn⟩ := h D (fresh D (Nat.le_refl _))
  have fpY : ∀ {H' : Hp}, (∀ b ∈ fp, H' b = none) → ∀ b ∈ fp, FpOk (cxComp X own scope C fp s H) [] H' b := fun hn b hb => by
    obtain ⟨q0, q1, q2, q3, q4, q5⟩ := hf b hb
    refine ⟨hn b hb, I1.ok.exf b hb |>.1, I1.ok.exfs b hb, .inl hb, I1.ok.exf b hb |>.2, fun p hp => absurd (show p ∈ ([] : List (Addr × Obj)) from hp) (by simp)⟩
  have loop : codeAny (model X.prog X.w) X.A (.compLoop (.ListComp elt [⟨tg, iter, ifs, 0⟩] scope pos) 0 (.ref it) (.ref D) (compEnvC scope (clOf X.env.cells scope.names []) C X.env)) (RR (.ref D) C) { s with heap := h₁, toks := s.toks + ([] : List (Str × Value)).length } := by
    refine compLoop_any (fun n s' => ∃ i σ' H', Inv (cxComp X own scope C fp s H) [] σ' H' s' ∧ tn i s'.heap ∧ (∀ b ∈ fp, H' b = none) ∧ W i n σ' H') ?_ m0
      ⟨0, _, _, I1, T.keep _ _ _ st fun b _ o e => old b o e, fun b hb => ?_, w0⟩
    · rintro n s3 ⟨i, σ3, H3, I3, st3, fr3, w3⟩
      rcases turn i n σ3 H3 w3 with ⟨stop, qn⟩ | ⟨go, step⟩
      · refine thn (T.done (cxComp X own scope C fp s H) rfl rfl rfl hc i [] s3 σ3 H3 _ I3 (fpY fr3) st3 stop) fun r s4 ⟨hr, I4⟩ => ?_
        subst hr
        obtain ⟨m, hm, _⟩ := I4.loc
        exact hRR D C s4 H3 m (I.behind hf I4) hm I4.free hCle qn
      · refine thn (T.item (cxComp X own scope C fp s H) rfl rfl rfl hc i [] s3 σ3 H3 _ I3 (fpY fr3) st3 go) fun r s4 ⟨u, hr, h4⟩ => ?_
        subst hr
        dsimp only
        refine thn h4 fun _ s5 ⟨x, H5, I5, r5, y5, st5, fr5⟩ => ?_
        have I5' := I5.pinned (fpY fr5) (T.obj _ _ st5)
        refine thn (hg C fp s H _ s5 σ3 H5 x u _ I5' r5 (step x H5 y5)) fun _ s6 ⟨σ6, H6, I6, q6⟩ => ?_
        refine thn (ht C fp s H _ s6 σ6 H6 _ I6 q6) fun b s7 ⟨H7, I7, q7⟩ => ?_
        have again : ∀ {s8 : Shared} {σ7 : St} {H7 : Hp}, Inv (cxComp X own scope C fp s H) ([] ++ pinsAt fp s5.heap) σ7 H7 s8 → (∃ m', m' < n ∧ W (i + 1) m' σ7 H7) → ∃ m, m < n ∧ ∃ i σ' H', Inv (cxComp X own scope C fp s H) [] σ' H' s8 ∧ tn i s8.heap ∧ (∀ b ∈ fp, H' b = none) ∧ W i m σ' H' := fun {s8 σ7 H7} I7 n7 => by
          obtain ⟨m', hm, w7⟩ := n7
          refine ⟨m', hm, i + 1, σ7, H7, I7.unpinned, T.keep _ _ _ st5 fun b hb o e => (I7.pin (b, o) (List.mem_append_right _ (List.mem_append_right _ (mem_pinsAt hb e)))).1, fun b hb => ?_, w7⟩
          obtain ⟨o, e, d⟩ := T.obj _ _ st5 b hb
          exact (I7.pin (b, o) (List.mem_append_right _ (List.mem_append_right _ (mem_pinsAt hb e)))).2.1
        cases b with
        | false =>
          rw [if_neg (by simp)] at q7
          exact again I7 q7
        | true =>
          rw [if_pos rfl] at q7 ⊢
          refine thn (he C fp s H _ s7 σ6 H7 _ I7 q7) fun u8 s8 ⟨v, H8, I8, r8, xs, hx, hz, q8⟩ => ?_
          refine thn (mt_append (X := cxComp X own scope C fp s H) _ s8 σ6 H8 (.ref D) [v] (.ref D) [u8] (fun _ H9 => ∃ m', m' < n ∧ W (i + 1) m' σ6 H9) I8 rfl (.cons r8 .nil) ⟨D, xs, v, rfl, rfl, hx, hz, q8⟩) fun _ s9 ⟨_, H9, I9, _, q9⟩ => ?_
          exact again I9 q9
    · have lt : b < D := by
        obtain ⟨o, e⟩ := ho b hb
        exact hD ▸ Heap.lt_size e
      rw [upd_ne (Nat.ne_of_lt lt)]
      exact (hf b hb).1
  exact codeAny_compStart_list loop (T.self _ 0 _ _ _ (T.keep _ _ _ st fun b _ o e => old b o e) loop)
theorem comp_clos {pins : List (Addr × Obj)} {σ : St} {H : Hp} {s : Shared} (S : CompScope own X.N X.env.scope scope) (I : Inv X pins σ H s) : closureFor scope X.env = pure (clOf X.env.cells scope.names []) :=
  closureFor_eq fun y hy hk => I.ok.has y.1 (by rcases S.up y hy hk with z | z; exact .inl z; exact .inr z)
theorem Inv.letgo {pins : List (Addr × Obj)} {σ : St} {H' : Hp} {s' : Shared} {h' : Heap} {C : Addr} {z : Nat} (I : Inv X pins σ H' s') (hC : H' C = none) (h0 : X.s₀.heap.objs.size ≤ z) (hz : z ≤ C) (hL : X.env.locals < z) (hcl : ∀ x c, X.env.cells.lookup x = some c → c < z) (hp : ∀ p ∈ X.pn ++ pins, p.1 < z) (hs : Heap.SameBut C s'.heap h') : Inv X pins σ H' { s' with heap := h' } :=
  I.turned (t' := s'.toks) (it := C) (fun b o hb e => hs.extBut b o hb e) hC (Nat.ne_of_gt (Nat.lt_of_lt_of_le hL hz)) (.inr (Nat.le_trans h0 hz)) (fun x c e => Nat.ne_of_lt (Nat.lt_of_lt_of_le (hcl x c e) hz)) fun p hq => Nat.ne_of_lt (Nat.lt_of_lt_of_le (hp p hq) hz)
theorem pe_comp {N0 P0 : List Str} {sc : Scope} (S0 : FnScope N0 P0 sc) (hc : X.calm = true) (S1 : CompScope own N0 sc scope) (hi : PI X tg iter wi)
    (hg : ∀ C fp s H, (maskN own N0).Nodup → PG (cxComp X own scope C fp s H) tg g) (ht : ∀ C fp s H, PTs (cxComp X own scope C fp s H) ifs tt) (he : ∀ C fp s H, PE (cxComp X own scope C fp s H) elt te)
    (hs : ∀ x, foldedSetIterable iter X.env x = pure x := by intro _; rfl) (hN0 : X.N = N0 := by rfl) (hsc : X.env.scope = sc := by rfl) : PE X (.ListComp elt [⟨tg, iter, ifs, 0⟩] scope pos) (tCompB own.length wi g tt te) := by
  intro pins s σ H Q I h
  subst hN0 hsc
  have S := S1
  replace hg := fun C fp s H => hg C fp s H S1.nd
  rw [eval_ListComp]
  refine wpAny_comprehension_free (use := none) rfl hs (comp_clos S I) S.kind S.loc (thn (hi pins s σ H _ I h) fun xv s₁ h₁ => thn h₁ fun itv s₂ h₂ => ?_)
  obtain ⟨it, fp, tn, J, H2, rfl, I2, T, st2, f2, q2⟩ := h₂
  refine comp_block (Q := Q) hc S hg ht he I2 T st2 f2 q2 ?_
  intro D C s' H' m I' hm hC hCle q
  refine ⟨m, hm, fun h' hs' => ⟨.ref D, H', ?_, rfl, q⟩⟩
  exact I'.letgo hC I2.sz hCle I2.lt (fun x c e => let ⟨v, z⟩ := I2.cell x c e; z.lt) (fun p hp => Heap.lt_size (I2.pin p hp).1) hs'
theorem ps_comp {i : Nat} {x : Str} {pos' spos : Pos} {N0 P0 : List Str} {sc : Scope} (S0 : FnScope N0 P0 sc) (hc : X.calm = true) (S1 : CompScope own N0 sc scope) (hi : PI X tg iter wi)
    (hg : ∀ C fp s H, (maskN own N0).Nodup → PG (cxComp X own scope C fp s H) tg g) (ht : ∀ C fp s H, PTs (cxComp X own scope C fp s H) ifs tt) (he : ∀ C fp s H, PE (cxComp X own scope C fp s H) elt te)
    (hN : X.N.Nodup) (hiN : X.N[i]? = some x) (hx : Loc X.env.scope x)
    (hsw : swapsWith (.ListComp elt [⟨tg, iter, ifs, 0⟩] scope pos) (some (.Name x pos')) spos.line X.env = pure true)
    (hs : ∀ x, foldedSetIterable iter X.env x = pure x := by intro _; rfl) (hf : X.fn x = true ∨ X.env.scope.names.lookup x = some .local := by first | exact .inl rfl | exact .inr rfl | assumption) (hN0 : X.N = N0 := by rfl) (hsc : X.env.scope = sc := by rfl) :
    PS X (.Assign [.Name x pos'] (.ListComp elt [⟨tg, iter, ifs, 0⟩] scope pos) spos) (tAsg (tCompB own.length wi g tt te) (gName i)) := by
  intro pins s σ H D I h
  subst hN0 hsc
  have S := S1
  replace hg := fun C fp s H => hg C fp s H S1.nd
  rw [exec_Assign_Name_used _ _ _ _ hsw]
  refine wpAny_bind (wpAny_standAt (wpAny_bind ?_))
  show wpAny _ X.A (do let _ ← comprehension (.ListComp elt [⟨tg, iter, ifs, 0⟩] scope pos) scope X.env _ (newList []) false (eval iter X.env) (some (assign (.Name x pos') X.env))) _ _ s
  refine wpAny_bind (wpAny_mono (wpAny_comprehension_free (use := some (assign (.Name x pos') X.env)) (Q := fun _ s' => SP X pins D .next s') rfl hs (comp_clos S I) S.kind S.loc
    (thn (hi pins s σ H _ I h) fun xv s₁ h₁ => thn h₁ fun itv s₂ h₂ => ?_)) (fun _ s' hq => wpAny_pure (wpAny_pure hq)) fun _ _ e => e)
  obtain ⟨it, fp, tn, J, H2, rfl, I2, T, st2, f2, q2⟩ := h₂
  refine comp_block (Q := fun v H => D.nx (σ.set i (some v)) H) hc S hg ht he I2 T st2 f2 q2 ?_
  intro Dl C s' H' m I' hm hC hCle q
  have hL := I2.lt
  have hcl : ∀ x c, X.env.cells.lookup x = some c → c < s₂.heap.objs.size := fun x c e => let ⟨v, z⟩ := I2.cell x c e; z.lt
  show wpAny _ X.A (assign (.Name x pos') X.env (.ref Dl)) _ _ _
  refine wpAny_assign_Name (store_ok2 I' hN hiN hx (v := .ref Dl) rfl (fun s'' I'' ⟨a, sb, ha⟩ => ?_) hf)
  have ne : C ≠ a := by
    rcases ha with rfl | ha
    · exact Nat.ne_of_gt (Nat.lt_of_lt_of_le hL hCle)
    · exact Nat.ne_of_gt (Nat.lt_of_lt_of_le (hcl _ _ ha) hCle)
  refine ⟨m, hm.sameBut sb ne, fun h' hs' => ⟨_, H', ?_, q⟩⟩
  exact I''.letgo hC I2.sz hCle hL hcl (fun p hp => Heap.lt_size (I2.pin p hp).1) hs'
end
end L2
end

section
set_option Elab.async false
set_option linter.all false
set_option maxRecDepth 100000
set_option maxHeartbeats 2000000
namespace L2
open PySem PySem.Spec PyProof.Rows
open PySem.W (Dat kqdP kqdPs kqdOk)
section
variable {X : Cx}
theorem op_mulB : OpR X (binaryOp .Mult) (rI IntMulOk fun i j => .int (i * j)) := opI fun _ _ _ _ _ _ _ hc q => mul_int q hc
noncomputable def CDivB (i j : Int) : Prop := j ≠ 0 ∧ j.natAbs.log2 < 9000
theorem op_fdivB : OpR X (binaryOp .FloorDiv) (rI CDivB fun i j => .int (i.fdiv j)) := opI fun _ _ _ _ _ _ _ hc q => floordiv_int hc.1 q (.inl (PyProof.noPylong_of_log2 hc.2))
end
mutual
inductive Is (K : PySem.W.Frag) (H : Hp) : V → Dat → Prop
  | none : Is K H .non .none
  | bool (b : Bool) : Is K H (.bl b) (.bool b)
  | int (i : Int) : Is K H (.int i) (.int i)
  | str (x : Str) : Is K H (.str x) (.str x)
  | tup {a : Addr} {xs : List V} {ds : List Dat} : SqT K H a xs → Iss K H xs ds → Is K H (.ref a) (.tuple ds)
  | lst {a : Addr} {xs : List V} {ds : List Dat} : SqL K H a xs → Iss K H xs ds → Is K H (.ref a) (.list ds)
inductive Iss (K : PySem.W.Frag) (H : Hp) : List V → List Dat → Prop
  | nil : Iss K H [] []
  | cons {x : V} {d : Dat} {xs : List V} {ds : List Dat} : Is K H x d → Iss K H xs ds → Iss K H (x :: xs) (d :: ds)
end
theorem Same.tup {K : PySem.W.Frag} {H H' : Hp} {a : Addr} {xs : List V} (e : Same H H') (h : SqT K H a xs) : SqT K H' a xs := by
  rcases h with (h | ⟨o, h⟩) | h
  · exact .inl (.inl (e _ _ h))
  · exact .inl (.inr ⟨o, e _ _ h⟩)
  · exact .inr h
theorem Same.new {H : Hp} {p : Addr} (h : H p = Option.none) (o : HO) : Same H (upd H p o) := fun b u q => by rw [upd_ne (ne_of_none q h)]; exact q
section
variable {K : PySem.W.Frag} {H H' : Hp}
end
section
variable {X : Cx} {pins : List (Addr × Obj)} {σ : St} {H : Hp} {s : Shared}
mutual
theorem Is.reads (I : Inv X pins σ H s) : ∀ {v : V} {d : Dat} {u : Value}, Is X.K H v d → RelV v u → ∃ as, Reads s.heap u (kqdP d) as
  | _, _, _, .none, r => by cases (show _ = Value.none from r); exact ⟨_, .none⟩
  | _, _, _, .bool b, r => by cases (show _ = Value.bool b from r); exact ⟨_, .bool b⟩
  | _, _, _, .int i, r => by obtain ⟨t, rfl⟩ := r; exact ⟨_, .int i t⟩
  | _, _, _, .str x, r => by obtain ⟨t, rfl⟩ := r; exact ⟨_, .str x t⟩
  | _, _, _, .tup (a := a) h q, r => by
    cases (show _ = Value.ref a from r)
    obtain ⟨its, rv, ⟨o, e, c, n, d⟩, _⟩ := I.tuple h
    obtain ⟨as, z⟩ := Iss.reads I q rv
    rw [kqdP]
    exact ⟨as, .tuple e c d (by simpa using z)⟩
  | _, _, _, .lst (a := a) h q, r => by
    cases (show _ = Value.ref a from r)
    obtain ⟨its, rv, ⟨o, n, e, c, _, d⟩, _⟩ := I.list h
    obtain ⟨as, z⟩ := Iss.reads I q rv
    rw [kqdP]
    exact ⟨_, .list e c d (by simpa using z)⟩
theorem Iss.reads (I : Inv X pins σ H s) : ∀ {v : List V} {d : List Dat} {u : List Value}, Iss X.K H v d → Vals v u → ∃ as, ReadsAll s.heap u (kqdPs d) as
  | _, _, _, .nil, .nil => ⟨_, .nil⟩
  | _, _, _, .cons a r, .cons b t => by
    obtain ⟨as, p⟩ := Is.reads I a b
    obtain ⟨bs, q⟩ := Iss.reads I r t
    rw [kqdPs]
    exact ⟨_, .cons p q⟩
end
end
open Classical in
noncomputable def deq (d e : Dat) : Bool := decide (d = e)
open Classical in
theorem deq_self (d : Dat) : deq d d = true := decide_eq_true rfl
open Classical in
theorem deq_true {d e : Dat} (h : d = e) : deq d e = true := decide_eq_true h
open Classical in
theorem deq_ne {d e : Dat} (h : d ≠ e) : deq d e = false := decide_eq_false h
noncomputable def rEqD (K : PySem.W.Frag) (n : Bool) : R2 := fun x y H Q => ∃ d e, Is K H x d ∧ Is K H y e ∧ kqdOk 9 d = true ∧ kqdOk 9 e = true ∧ Q (.bl (if n then !deq d e else deq d e)) H
theorem eqv_deq {d e : Dat} (h1 : kqdOk 9 d = true) (h2 : kqdOk 9 e = true) : PyData.eqv (kqdP d) (kqdP e) = deq d e := by
  have q := PySem.W.kqd_eqv 9 d e 9 h1 h2
  by_cases z : d = e
  · rw [deq_true z]; exact q.mpr z
  · rw [deq_ne z]; exact Bool.eq_false_iff.mpr fun x => z (q.mp x)
theorem shaped9 {d : Dat} (h : kqdOk 9 d = true) : SeqAt.shaped (kqdP d) = true := by
  have l := PySem.W.kqd_lay 9 d h
  unfold SeqAt.shaped
  rw [l.1, Bool.true_and]
  exact decide_eq_true (Nat.le_trans l.2 (by decide))
section
variable {X : Cx}
theorem op_eqD (hu : X.A.units + 64 < cLine) : OpR X (compareOp .Eq) (rEqD X.K false) := by
  intro pins s σ H x y v u Q I rx ry h
  obtain ⟨d, e, hd, he, o1, o2, q⟩ := h
  obtain ⟨as, ra⟩ := hd.reads I rx
  obtain ⟨bs, rb⟩ := he.reads I ry
  refine PyProof.Rows.eq_dataH ra rb (shaped9 o1) (shaped9 o2) hu ?_
  rw [eqv_deq o1 o2]
  exact ⟨.bl _, H, I, rfl, q⟩
theorem op_neD (hu : X.A.units + 64 < cLine) : OpR X (compareOp .NotEq) (rEqD X.K true) := by
  intro pins s σ H x y v u Q I rx ry h
  obtain ⟨d, e, hd, he, o1, o2, q⟩ := h
  obtain ⟨as, ra⟩ := hd.reads I rx
  obtain ⟨bs, rb⟩ := he.reads I ry
  refine PyProof.Rows.ne_dataH ra rb (shaped9 o1) (shaped9 o2) hu ?_
  rw [eqv_deq o1 o2]
  exact ⟨.bl _, H, I, rfl, q⟩
theorem call_sumL (hc : X.calm = true) : CallR X (.builtin "sum") (fun xs H Q => ∃ (a : Addr) (ns : List Int), xs = [.ref a] ∧ SqL X.K H a (ns.map V.int) ∧ Q (.int ns.sum) H) := by
  intro pins s σ H xs us Q I r h
  obtain ⟨a, ns, rfl, hl, q⟩ := h
  cases r with
  | cons r1 r2 =>
    cases r2
    cases (show _ = Value.ref a from r1)
    obtain ⟨its, rv, pl, _⟩ := I.list hl
    obtain ⟨m, F⟩ := I.fr
    have hi : IntsAre its ns := intsAre_of rv
    obtain ⟨xs, hxs⟩ := (IntsAre.allInts hi).items
    have e : numsOf its = ns := hi.numsOf
    refine sum_intListG (xs := xs) (I.ok.hd hc) (by rw [← hxs]; exact pl.isList) fun h' tk t' hk => ?_
    refine ⟨.int ns.sum, H, I.kept (t' := tk) hk, ⟨t', ?_⟩, q⟩
    have e2 : numsOf its = (xs.map Prod.fst).toList := by
      have := nums_intItems (xs := xs)
      rw [← hxs] at this
      simpa using this
    rw [preSum_eq, List.take_of_length_le (by simp)]
    rw [← e, e2, Array.toList_map]
end
end L2
end

section
set_option Elab.async false
set_option linter.all false
set_option maxRecDepth 100000
set_option maxHeartbeats 4000000
namespace L2
open PySem PySem.Spec PyProof.Rows
section
variable {prog : Program} {w : World} {A : Around} {E : Value → Shared → Prop} {s : Shared}
theorem tupNext {it t : Addr} {i : Nat} {its : Array Value} {x : Value} {Q : Value → Shared → Prop} (hit : s.heap.IsTupleIter it t i) (ht : s.heap.IsTuple t its) (hx : its[i]? = some x)
    (k : ∀ g, g.IsTupleIter it t (i + 1) → Heap.SameBut it s.heap g → Q x { s with heap := g }) : wpAny (model prog w) A (Builtin.SmallTypes.nextOf (.ref it)) Q E s := by
  obtain ⟨o, g1, g2, g3⟩ := id hit
  obtain ⟨p, q1, _, n, q2⟩ := ht
  unfold Builtin.SmallTypes.nextOf
  refine wpAny_bind (wpAny_callSpecial?_slot (name := Str.ofString "__next__") hit.typeIs F.slot_tuple_iterator_next (wpAny_call_entry F.slot_tuple_iterator_next hit.typeIs F.entry_tuple_iterator_next ?_ (F.args_tuple_iterator_next_1 _)))
  show wpAny _ _ (field (.ref it) 0 >>= _) _ _ s; refine wpAny_bind (wpAny_field g1 g3 (x := .ref t) rfl ?_); show wpAny _ _ (if (Value.ref t == Value.none) = true then _ else _) _ _ s
  rw [if_neg (show ¬ ((Value.ref t == Value.none) = true) from Bool.false_ne_true)]; show wpAny _ _ (field (.ref it) 1 >>= _) _ _ s; refine wpAny_bind (wpAny_field g1 g3 (x := .int i 0) rfl ?_)
  show wpAny _ _ (seqItems? (.ref t) >>= _) _ _ s; refine wpAny_bind (wpAny_seqItems q1 q2 ?_); simp only [Int.toNat_natCast, hx]
  refine wpAny_bind (wpAny_setField g1 g3 (by simp) (wpAny_pure ⟨x, rfl, wpAny_pure (k _ ⟨_, Heap.get?_update_self _ g1 (Obj.isFreed_of_fields (Obj.data_mapFields g3 _)), (Obj.cls_mapFields ..).trans g2, ?_⟩ (Heap.SameBut.update ..))⟩))
  rw [Obj.data_mapFields g3]; simp [rawInt]
theorem tupEnd {it t : Addr} {i : Nat} {its : Array Value} {Q : Value → Shared → Prop} (hh : A.handled = none) (hit : s.heap.IsTupleIter it t i) (ht : s.heap.IsTuple t its) (hx : its[i]? = none)
    (k : ∀ g e, Heap.ExtBut it s.heap g → (∃ o, g.get? e = some o ∧ o.cls = .type "StopIteration") → E (.ref e) { s with heap := g }) : wpAny (model prog w) A (Builtin.SmallTypes.nextOf (.ref it)) Q E s := by
  obtain ⟨o, g1, g2, g3⟩ := id hit
  obtain ⟨p, q1, _, n, q2⟩ := ht
  unfold Builtin.SmallTypes.nextOf
  refine wpAny_bind (wpAny_callSpecial?_slot (name := Str.ofString "__next__") hit.typeIs F.slot_tuple_iterator_next (wpAny_call_entry F.slot_tuple_iterator_next hit.typeIs F.entry_tuple_iterator_next ?_ (F.args_tuple_iterator_next_1 _)))
  show wpAny _ _ (field (.ref it) 0 >>= _) _ _ s; refine wpAny_bind (wpAny_field g1 g3 (x := .ref t) rfl ?_); show wpAny _ _ (if (Value.ref t == Value.none) = true then _ else _) _ _ s
  rw [if_neg (show ¬ ((Value.ref t == Value.none) = true) from Bool.false_ne_true)]; show wpAny _ _ (field (.ref it) 1 >>= _) _ _ s; refine wpAny_bind (wpAny_field g1 g3 (x := .int i 0) rfl ?_)
  show wpAny _ _ (seqItems? (.ref t) >>= _) _ _ s; refine wpAny_bind (wpAny_seqItems q1 q2 ?_); simp only [Int.toNat_natCast, hx]
  refine wpAny_bind (wpAny_rule (wpAny_bind (wpAny_setField g1 g3 (by simp) ?_))); show wpAny _ _ (newExc (.type "StopIteration") [] >>= _) _ _ _
  refine wpAny_bind ?_; simp only [newExc, newTuple]; refine wpAny_bind (wpAny_newObj_type ?_ (by size_fits))
  refine wpAny_bind (m := firstArgMember _ _) (wpAny_of_eq (a := Value.none) (by first | rfl | (simp only [firstArgMember]; rfl)) ?_); refine wpAny_newObj_type ?_ (by size_fits)
  simp only [raiseNew]; refine wpAny_bind (wpAny_handled ?_); first | rw [show A.in1.handled = none from hh] | rw [hh]
  refine wpAny_bind (wpAny_pure (wpAny_throw ?_)); exact k _ _ (((Heap.SameBut.update ..).extBut.push _).push _) ⟨_, Heap.get?_push_size _ rfl, rfl⟩
structure ZipAt (h : Heap) (z a b i1 i2 l1 l2 : Addr) (xs ys : Array Value) (k : Nat) (f : Value) : Prop where
  z : IsZip h z a b f
  a : IsPair h a (.ref i1) (.ref i2)
  b : ∃ u v, IsPair h b u v
  i1 : h.IsTupleIter i1 l1 k
  i2 : h.IsTupleIter i2 l2 k
  l1 : h.IsTuple l1 xs
  l2 : h.IsTuple l2 ys
theorem zipNext {z a b i1 i2 l1 l2 : Addr} {k : Nat} {xs ys : Array Value} {x y : Value} {Q : Option Value → Shared → Prop} (D : ZipApart z a b i1 i2 l1 l2) (Z : ZipAt s.heap z a b i1 i2 l1 l2 xs ys k .none) (hx : xs[k]? = some x) (hy : ys[k]? = some y)
    (kq : ∀ g, ZipAt g z a b i1 i2 l1 l2 xs ys (k + 1) (rawInt s.heap.objs.size) → IsPair g s.heap.objs.size x y → (∀ c o, c ≠ z → c ≠ b → c ≠ i1 → c ≠ i2 → s.heap.get? c = some o → g.get? c = some o) → Q (some (.ref s.heap.objs.size)) { s with heap := g }) :
    wpAny (model prog w) A (pyNext (.ref z)) Q E s := by
  obtain ⟨hz, ha, ⟨u, v, hb⟩, h1, h2, t1, t2⟩ := Z
  have hT : s.TypeIs (.ref z) "zip" := ⟨_, hz, rfl⟩
  unfold pyNext
  refine wpAny_bind (wpAny_attempt (wpAny_callSpecial?_slot (name := Str.ofString "__next__") hT F.slot_zip_next (wpAny_call_entry F.slot_zip_next hT F.entry_zip_next ?_ (F.args_zip_next_1 _))))
  show wpAny _ _ (field (.ref z) 2 >>= _) _ _ _; refine wpAny_bind (wpAny_field hz rfl (x := .bool false) rfl ?_); show wpAny _ _ (field (.ref z) 3 >>= _) _ _ _
  refine wpAny_bind (wpAny_field hz rfl (x := .ref a) rfl ?_); refine wpAny_bind (wpAny_seqItems ha rfl ?_); show wpAny _ _ (Builtin.SmallTypes.ownedTupleIsFree (.ref z) >>= _) _ _ _
  refine wpAny_bind ?_; unfold Builtin.SmallTypes.ownedTupleIsFree; refine wpAny_bind (wpAny_field hz rfl (x := .none) rfl (wpAny_pure ?_))
  simp only [if_true]; refine wpAny_bind (wpAny_rule ?_); refine wpAny_bind (wpAny_field hz rfl (x := .ref b) rfl ?_)
  refine wpAny_bind (wpAny_setField_rec hz (by simp) fun g₁ e₁ s₁ => ?_)
  replace e₁ : IsZip g₁ z a b .ellipsis := e₁
  refine wpAny_bind ?_; simp only [List.zipIdx_cons, List.zipIdx_nil, List.forIn_cons, List.forIn_nil]
  refine wpAny_bind (wpAny_bind (wpAny_onRaise ?_)); show wpAny _ _ (Builtin.SmallTypes.nextOf (.ref i1) >>= _) _ _ _
  refine wpAny_bind (tupNext (h1.extBut s₁.extBut D.i1z) (t1.extBut s₁.extBut D.l1z) hx fun g₂ f₂ s₂ => wpAny_pure ?_)
  have b₂ : IsPair g₂ b u v := s₂.extBut _ _ D.TOi1 (s₁.extBut _ _ D.TOz hb)
  refine wpAny_bind (wpAny_seqItems b₂ rfl ?_); refine wpAny_bind (wpAny_updateSeq_pair b₂ fun g₃ b₃ s₃ => ?_)
  replace b₃ : IsPair g₃ b x v := b₃
  refine wpAny_bind (wpAny_letGo (wpAny_pure ?_)); refine wpAny_bind (wpAny_bind (wpAny_onRaise ?_)); show wpAny _ _ (Builtin.SmallTypes.nextOf (.ref i2) >>= _) _ _ _
  refine wpAny_bind (tupNext (((h2.extBut s₁.extBut D.i2z).extBut s₂.extBut D.i12.symm).extBut s₃.extBut D.TOi2.symm) (((t2.extBut s₁.extBut D.l2z).extBut s₂.extBut D.l2i1).extBut s₃.extBut D.l2TO) hy fun g₄ f₄ s₄ => wpAny_pure ?_)
  have b₄ : IsPair g₄ b x v := s₄.extBut _ _ D.TOi2 b₃
  refine wpAny_bind (wpAny_seqItems b₄ rfl ?_); refine wpAny_bind (wpAny_updateSeq_pair b₄ fun g₅ b₅ s₅ => ?_)
  replace b₅ : IsPair g₅ b x y := b₅
  refine wpAny_bind (wpAny_letGo (wpAny_pure (wpAny_pure ?_))); refine wpAny_bind (wpAny_seqItems b₅ rfl ?_); refine wpAny_bind (wpAny_newTuple ?_)
  have sz : g₅.objs.size = s.heap.objs.size := by rw [s₅.1, s₄.1, s₃.1, s₂.1, s₁.1]
  have e₅ : IsZip g₅ z a b .ellipsis := s₅.extBut _ _ D.TOz.symm (s₄.extBut _ _ D.i2z.symm (s₃.extBut _ _ D.TOz.symm (s₂.extBut _ _ D.i1z.symm e₁)))
  have k₅ : ∀ c o, c ≠ z → c ≠ b → c ≠ i1 → c ≠ i2 → s.heap.get? c = some o → g₅.get? c = some o := fun c o c1 c2 c3 c4 e => s₅.extBut _ _ c2 (s₄.extBut _ _ c4 (s₃.extBut _ _ c2 (s₂.extBut _ _ c3 (s₁.extBut _ _ c1 e))))
  have m₁ : g₅.IsTupleIter i1 l1 (k + 1) := ((f₂.extBut s₃.extBut D.TOi1.symm).extBut s₄.extBut D.i12).extBut s₅.extBut D.TOi1.symm
  have m₂ : g₅.IsTupleIter i2 l2 (k + 1) := f₄.extBut s₅.extBut D.TOi2.symm
  have lz : z < g₅.objs.size := Heap.lt_size e₅
  show wpAny _ _ (Builtin.SmallTypes.ownedTupleHandOut (.ref z) (.ref g₅.objs.size) >>= _) _ _ _; refine wpAny_bind ?_; unfold Builtin.SmallTypes.ownedTupleHandOut
  have e₆ : IsZip (g₅.push { cls := .type "tuple", data := .seq #[x, y] }) z a b .ellipsis := Heap.get?_push_of_some _ e₅
  refine wpAny_bind (wpAny_setField_rec e₆ (by simp) fun g₇ e₇ s₇ => ?_)
  replace e₇ : IsZip g₇ z a b (rawInt g₅.objs.size) := e₇
  refine wpAny_setField_rec e₇ (by simp) fun g₈ e₈ s₈ => ?_
  replace e₈ : IsZip g₈ z a b (rawInt g₅.objs.size) := e₈
  have up : ∀ c o, c ≠ z → g₅.get? c = some o → g₈.get? c = some o := fun c o c1 e => s₈.extBut _ _ c1 (s₇.extBut _ _ c1 (Heap.get?_push_of_some _ e))
  have p₈ : IsPair g₈ g₅.objs.size x y := s₈.extBut _ _ (Nat.ne_of_gt lz) (s₇.extBut _ _ (Nat.ne_of_gt lz) (Heap.get?_push_size _ rfl))
  rw [sz] at e₈ p₈
  refine wpAny_pure ⟨_, rfl, wpAny_pure ?_⟩
  show Q (some (.ref g₅.objs.size)) _; rw [sz]
  have all : ∀ c o, c ≠ z → c ≠ b → c ≠ i1 → c ≠ i2 → s.heap.get? c = some o → g₈.get? c = some o := fun c o c1 c2 c3 c4 e => up c o c1 (k₅ c o c1 c2 c3 c4 e)
  exact kq g₈ ⟨e₈, all _ _ D.TIz D.TITO D.TIi1 D.TIi2 ha, ⟨_, _, up _ _ D.TOz b₅⟩, m₁.at fun o e => up _ o D.i1z e, m₂.at fun o e => up _ o D.i2z e, t1.at fun o e => all _ o D.l1z D.l1TO D.l1i1 D.l1i2 e, t2.at fun o e => all _ o D.l2z D.l2TO D.l2i1 D.l2i2 e⟩ p₈ all
theorem zipEnd {z a b i1 i2 l1 l2 : Addr} {k : Nat} {xs ys : Array Value} {Q : Option Value → Shared → Prop} (hh : A.handled = none) (D : ZipApart z a b i1 i2 l1 l2) (Z : ZipAt s.heap z a b i1 i2 l1 l2 xs ys k .none) (hx : xs[k]? = none)
    (kq : ∀ g, (∀ c o, c ≠ z → c ≠ b → c ≠ i1 → c ≠ i2 → s.heap.get? c = some o → g.get? c = some o) → Q none { s with heap := g }) : wpAny (model prog w) A (pyNext (.ref z)) Q E s := by
  obtain ⟨hz, ha, ⟨u, v, hb⟩, h1, h2, t1, t2⟩ := Z
  have hT : s.TypeIs (.ref z) "zip" := ⟨_, hz, rfl⟩
  unfold pyNext
  refine wpAny_bind (wpAny_attempt (wpAny_callSpecial?_slot (name := Str.ofString "__next__") hT F.slot_zip_next (wpAny_call_entry F.slot_zip_next hT F.entry_zip_next ?_ (F.args_zip_next_1 _))))
  show wpAny _ _ (field (.ref z) 2 >>= _) _ _ _; refine wpAny_bind (wpAny_field hz rfl (x := .bool false) rfl ?_); show wpAny _ _ (field (.ref z) 3 >>= _) _ _ _
  refine wpAny_bind (wpAny_field hz rfl (x := .ref a) rfl ?_); refine wpAny_bind (wpAny_seqItems ha rfl ?_); show wpAny _ _ (Builtin.SmallTypes.ownedTupleIsFree (.ref z) >>= _) _ _ _
  refine wpAny_bind ?_; unfold Builtin.SmallTypes.ownedTupleIsFree; refine wpAny_bind (wpAny_field hz rfl (x := .none) rfl (wpAny_pure ?_))
  simp only [if_true]; refine wpAny_bind (wpAny_rule ?_); refine wpAny_bind (wpAny_field hz rfl (x := .ref b) rfl ?_)
  refine wpAny_bind (wpAny_setField_rec hz (by simp) fun g₁ e₁ s₁ => ?_)
  replace e₁ : IsZip g₁ z a b .ellipsis := e₁
  refine wpAny_bind ?_; simp only [List.zipIdx_cons, List.zipIdx_nil, List.forIn_cons, List.forIn_nil]
  refine wpAny_bind (wpAny_bind (wpAny_onRaise ?_)); show wpAny _ _ (Builtin.SmallTypes.nextOf (.ref i1) >>= _) _ _ _
  refine wpAny_bind (tupEnd hh (h1.extBut s₁.extBut D.i1z) (t1.extBut s₁.extBut D.l1z) hx fun g₂ e s₂ he => ?_)
  obtain ⟨oe, he1, he2⟩ := he
  have e₂ : IsZip g₂ z a b .ellipsis := s₂ _ _ D.i1z.symm e₁
  have hez : e ≠ z := fun x => by subst x; rw [e₂] at he1; cases he1; simp at he2
  refine wpAny_setField_rec e₂ (by simp) fun g₃ _ s₃ => ?_
  refine wpAny_bind (wpAny_isInstance (T := "StopIteration") (b := true) ⟨oe, s₃.extBut _ _ hez he1, he2⟩ isSubtype_stop ?_)
  exact wpAny_pure (kq _ fun c o c1 _ c3 _ x => s₃.extBut _ _ c1 (s₂ _ _ c3 (s₁.extBut _ _ c1 x)))
noncomputable abbrev zh (h : Heap) (l : Addr) : Heap := h.push { cls := .type "tuple_iterator", data := .fields #[.ref l, .int 0 0] }
theorem zipNewMeets (l1 l2 : Addr) (xs ys : Array Value) :
    Meets (Builtin.«zip.__new__» ⟨[.type "zip", .ref l1, .ref l2], []⟩) (fun _ R s => s.heap.IsTuple l1 xs ∧ s.heap.IsTuple l2 ys ∧ ∀ g, g = (((zh (zh s.heap l1) l2).push { cls := .type "tuple", data := .seq #[.ref s.heap.objs.size, .ref (zh s.heap l1).objs.size] }).push { cls := .type "tuple", data := .seq #[.none, .none] }) →
      R (.ok (.ret (.ref g.objs.size))) { s with heap := g.push { cls := .type "zip", data := .fields #[.none, .bool false, .bool false, .ref (zh (zh s.heap l1) l2).objs.size, .ref ((zh (zh s.heap l1) l2).push { cls := .type "tuple", data := .seq #[.ref s.heap.objs.size, .ref (zh s.heap l1).objs.size] }).objs.size] } }) :=
  .of_wp fun prog w A R s h => by
    obtain ⟨hp, g, d, tk, os⟩ := s; obtain ⟨q1, q2, h⟩ := h
    have hsub := sub_zip
    have L1 : Heap.IsTuple (Shared.heap ⟨hp, g, d, tk, os⟩) l1 xs := q1
    have L2 : Heap.IsTuple (Shared.heap ⟨zh hp l1, g, d, tk, os⟩) l2 ys := q2.at fun o e => Heap.get?_push_of_some _ e
    wp_walk using wpAny_pyIter_tuple L1, wpAny_pyIter_tuple L2
    exact ⟨_, rfl, h _ rfl⟩
theorem callZip {l1 l2 : Addr} {xs ys : Array Value} {Q : Value → Shared → Prop} (h1 : s.heap.IsTuple l1 xs) (h2 : s.heap.IsTuple l2 ys)
    (k : ∀ g, ZipAt g (s.heap.objs.size + 4) (s.heap.objs.size + 2) (s.heap.objs.size + 3) s.heap.objs.size (s.heap.objs.size + 1) l1 l2 xs ys 0 .none → (∀ c o, s.heap.get? c = some o → g.get? c = some o) → Q (.ref (s.heap.objs.size + 4)) { s with heap := g }) :
    wpAny (model prog w) A (call (.type "zip") [.ref l1, .ref l2]) Q E s := by
  refine callType_new F.called_zip (by decide) (F.typeCall_zip_2 _ _) (F.newCall_zip_2 _ _) (fun obj => F.args_object_init_3 obj _ _) F.entry_zip_new (zipNewMeets l1 l2 xs ys) ⟨h1, h2, fun g hg => ?_⟩
  generalize e1 : zh s.heap l1 = a1 at *
  generalize e2 : zh a1 l2 = a2 at *
  generalize e3 : a2.push { cls := .type "tuple", data := .seq #[.ref s.heap.objs.size, .ref a1.objs.size] } = a3 at *
  have n1 : a1.objs.size = s.heap.objs.size + 1 := by rw [← e1]; exact Heap.size_push ..
  have n2 : a2.objs.size = s.heap.objs.size + 2 := by rw [← e2, Heap.size_push, n1]
  have n3 : a3.objs.size = s.heap.objs.size + 3 := by rw [← e3, Heap.size_push, n2]
  have n4 : g.objs.size = s.heap.objs.size + 4 := by rw [hg, Heap.size_push, n3]
  have up1 : ∀ c o, s.heap.get? c = some o → a1.get? c = some o := fun c o x => e1 ▸ Heap.get?_push_of_some _ x
  have up2 : ∀ c o, a1.get? c = some o → a2.get? c = some o := fun c o x => e2 ▸ Heap.get?_push_of_some _ x
  have up3 : ∀ c o, a2.get? c = some o → a3.get? c = some o := fun c o x => e3 ▸ Heap.get?_push_of_some _ x
  have up4 : ∀ c o, a3.get? c = some o → g.get? c = some o := fun c o x => hg ▸ Heap.get?_push_of_some _ x
  have x1 : a1.get? s.heap.objs.size = some { cls := .type "tuple_iterator", data := .fields #[.ref l1, .int 0 0] } := e1 ▸ Heap.get?_push_size _ rfl
  have x2 : a2.get? (s.heap.objs.size + 1) = some { cls := .type "tuple_iterator", data := .fields #[.ref l2, .int 0 0] } := by rw [← n1]; exact e2 ▸ Heap.get?_push_size _ rfl
  have x3 : a3.get? (s.heap.objs.size + 2) = some { cls := .type "tuple", data := .seq #[.ref s.heap.objs.size, .ref a1.objs.size] } := by rw [← n2]; exact e3 ▸ Heap.get?_push_size _ rfl
  have x4 : g.get? (s.heap.objs.size + 3) = some { cls := .type "tuple", data := .seq #[.none, .none] } := by rw [← n3]; exact hg ▸ Heap.get?_push_size _ rfl
  have x5 : (g.push { cls := .type "zip", data := .fields #[.none, .bool false, .bool false, .ref a2.objs.size, .ref a3.objs.size] }).get? (s.heap.objs.size + 4) = some { cls := .type "zip", data := .fields #[.none, .bool false, .bool false, .ref a2.objs.size, .ref a3.objs.size] } := by rw [← n4]; exact Heap.get?_push_size _ rfl
  rw [n2, n3] at x5
  rw [n1] at x3
  show _ ∧ _
  rw [n4, n2, n3]
  have all : ∀ c o, s.heap.get? c = some o → (g.push { cls := .type "zip", data := .fields #[.none, .bool false, .bool false, .ref (s.heap.objs.size + 2), .ref (s.heap.objs.size + 3)] }).get? c = some o := fun c o x => Heap.get?_push_of_some _ (up4 _ _ (up3 _ _ (up2 _ _ (up1 _ _ x))))
  refine ⟨⟨_, x5, rfl⟩, k _ ⟨x5, Heap.get?_push_of_some _ (up4 _ _ x3), ⟨_, _, Heap.get?_push_of_some _ x4⟩, ⟨_, Heap.get?_push_of_some _ (up4 _ _ (up3 _ _ (up2 _ _ x1))), rfl, rfl⟩, ⟨_, Heap.get?_push_of_some _ (up4 _ _ (up3 _ _ x2)), rfl, rfl⟩, h1.at fun o e => all _ o e, h2.at fun o e => all _ o e⟩ all⟩
end
end L2
end

section
set_option Elab.async false
set_option linter.all false
set_option maxRecDepth 100000
set_option maxHeartbeats 4000000
namespace L2
open PySem PySem.Spec PyProof.Rows
noncomputable def Itz (K : PySem.W.Frag) (l1 l2 : Addr) : It :=
  ⟨fun i H => ∃ xs ys x y, SqT K H l1 xs ∧ SqT K H l2 ys ∧ xs[i]? = some x ∧ ys[i]? = some y,
   fun i H v H' => ∃ p, H p = none ∧ v = .ref p ∧ ∀ xs ys x y, SqT K H l1 xs → SqT K H l2 ys → xs[i]? = some x → ys[i]? = some y → H' = upd H p (.tup [x, y]),
   fun i H => ∃ xs, SqT K H l1 xs ∧ xs.length ≤ i ∧ ∃ ys, SqT K H l2 ys⟩
noncomputable def znt (z a b i1 i2 l1 l2 : Addr) (i : Nat) (h : Heap) : Prop := IsZip h z a b .none ∧ IsPair h a (.ref i1) (.ref i2) ∧ (∃ u v, IsPair h b u v) ∧ h.IsTupleIter i1 l1 i ∧ h.IsTupleIter i2 l2 i
theorem turn_zip {P : Program} {w : World} {K : PySem.W.Frag} {elts : List Expr} {x1} {pos : Pos} {z a b i1 i2 l1 l2 : Addr} (D : ZipApart z a b i1 i2 l1 l2) : Turn P w K (.Tuple elts x1 pos) (Itz K l1 l2) [z, a, b, i1, i2] z (znt z a b i1 i2 l1 l2) where
  mem := by simp
  obj := fun i h st c hc => by
    obtain ⟨h1, h2, ⟨u, v, h3⟩, ⟨o4, h4, _, d4⟩, ⟨o5, h5, _, d5⟩⟩ := st
    simp only [List.mem_cons, List.mem_nil_iff, or_false] at hc
    rcases hc with rfl | rfl | rfl | rfl | rfl
    · exact ⟨_, h1, fun v z => by cases z⟩
    · exact ⟨_, h2, fun v z => by cases z⟩
    · exact ⟨_, h3, fun v z => by cases z⟩
    · exact ⟨_, h4, fun v z => by rw [d4] at z; cases z⟩
    · exact ⟨_, h5, fun v z => by rw [d5] at z; cases z⟩
  keep := fun i h h' st k => by
    obtain ⟨h1, h2, ⟨u, v, h3⟩, h4, h5⟩ := st
    exact ⟨k _ (by simp) _ h1, k _ (by simp) _ h2, ⟨u, v, k _ (by simp) _ h3⟩, h4.at fun o e => k _ (by simp) o e, h5.at fun o e => k _ (by simp) o e⟩
  item := by
    intro X hP hw hK hc i pins s σ H E I hf st hg
    subst hP hw hK
    obtain ⟨xs, ys, x, y, q1, q2, hx, hy⟩ := hg
    obtain ⟨its, rv, p, hz⟩ := I.tuple q1
    obtain ⟨its', rv', p', hz'⟩ := I.tuple q2
    obtain ⟨u, hu, ru⟩ := rv.get hx
    obtain ⟨u', hu', ru'⟩ := rv'.get hy
    obtain ⟨h1, h2, h3, h4, h5⟩ := id st
    refine zipNext D ⟨h1, h2, h3, h4, h5, p, p'⟩ (x := u) (y := u') (by simpa using hu) (by simpa using hu') fun g Z pr all => ⟨_, rfl, ?_⟩
    refine wpAny_letOwnedTupleGo_zip (s := { s with heap := g }) Z.z fun g2 e2 s2 => ?_
    have hn : H s.heap.objs.size = none := I.hok.fresh (Nat.le_refl _)
    have lt : ∀ c ∈ [z, a, b, i1, i2], c < s.heap.objs.size := fun c hc => by
      have := (hf c hc)
      obtain ⟨w1, w2, ⟨_, _, w3⟩, ⟨_, w4, _⟩, ⟨_, w5, _⟩⟩ := st
      simp only [List.mem_cons, List.mem_nil_iff, or_false] at hc
      rcases hc with rfl | rfl | rfl | rfl | rfl
      · exact Heap.lt_size w1
      · exact Heap.lt_size w2
      · exact Heap.lt_size w3
      · exact Heap.lt_size w4
      · exact Heap.lt_size w5
    have kp : ∀ c o, c ∉ [z, a, b, i1, i2] → s.heap.get? c = some o → g2.get? c = some o := fun c o hc e => by
      simp only [List.mem_cons, List.mem_nil_iff, or_false, not_or] at hc
      exact s2.extBut _ _ hc.1 (all c o hc.1 hc.2.2.1 hc.2.2.2.1 hc.2.2.2.2 e)
    have trk : ∀ c u, H c = some u → c ∉ [z, a, b, i1, i2] := fun c u e hc => by rw [(hf c hc).1] at e; cases e
    have pr2 : g2.get? s.heap.objs.size = some { cls := .type "tuple", data := .seq #[u, u'] } := s2.extBut _ _ (Nat.ne_of_gt (lt z (by simp))) pr
    have I2 : Inv X pins σ (upd H s.heap.objs.size (.tup [x, y])) { s with heap := g2 } := by
      refine I.step (g' := s.gens) (d' := s.drawn) (t' := s.toks) (ch := [z, a, b, i1, i2]) (fun c hc => ?_) (fun c o _ _ hc e _ => kp c o hc e) (fun c o _ _ hc e _ => ⟨o.slots, kp c o hc e⟩) (fun c o _ e n => ?_)
        (fun c o hc e => ⟨o, kp c o hc e⟩) (fun c vs e => ?_) (fun c o vs e => ?_) (fun c ps e => ⟨#[], ?_⟩) (fun m hm => ?_) (fun c v e => ?_) I.bare
      · obtain ⟨f0, f1, f2, f3, f4, f5⟩ := hf c hc
        exact ⟨f3, f1, f4, f5⟩
      · rw [upd_ne (Nat.ne_of_lt (Heap.lt_size e))]; exact n
      · rw [upd_ne (ne_of_none e hn)]; exact e
      · rw [upd_ne (ne_of_none e hn)]; exact e
      · rw [upd_ne (ne_of_none e hn), e]; simp
      · obtain ⟨o, es, ep, ho, r⟩ := hm
        exact ⟨o, es, ep, kp _ o (fun hc => (hf _ hc).2.1 rfl) ho, r⟩
      · by_cases hb : c = s.heap.objs.size
        · subst hb
          rw [upd_same] at e; cases e
          exact ⟨by show 2 ≤ sizeLine; decide, [u, u'], .cons ru (.cons ru' .nil), ⟨_, pr2, rfl, _, rfl⟩⟩
        · rw [upd_ne hb] at e
          refine (I.hok c v e).stay (fun d o hd q => kp d o ?_ q) (fun d q => by rw [upd_ne (ne_of_none q hn)]; exact q) fun d ts q => by rw [upd_ne (ne_of_none q hn)]; exact q
          rcases hd with rfl | hd
          · exact trk _ _ e
          · exact trk _ _ hd
    refine ⟨.ref s.heap.objs.size, _, I2, rfl, ⟨_, hn, rfl, fun xs' ys' x' y' a1 a2 a3 a4 => ?_⟩, ⟨e2, s2.extBut _ _ D.TIz Z.a, ?_, Z.i1.extBut s2.extBut D.i1z, Z.i2.extBut s2.extBut D.i2z⟩, fun c hc => ?_⟩
    · rw [I.tuple_inj a1 q1, hx] at a3
      rw [I.tuple_inj a2 q2, hy] at a4
      cases a3; cases a4; rfl
    · obtain ⟨v1, v2, e3⟩ := Z.b
      exact ⟨v1, v2, s2.extBut _ _ D.TOz e3⟩
    · rw [upd_ne (Nat.ne_of_lt (lt c hc))]; exact (hf c hc).1
  done := by
    intro X hP hw hK hc i pins s σ H E I hf st hg
    subst hP hw hK
    obtain ⟨xs, q1, hx, ys, q2⟩ := hg
    obtain ⟨its, rv, p, hz⟩ := I.tuple q1
    obtain ⟨its', rv', p', hz'⟩ := I.tuple q2
    obtain ⟨h1, h2, h3, h4, h5⟩ := id st
    have hl := rv.length
    refine zipEnd (I.ok.hd hc) D ⟨h1, h2, h3, h4, h5, p, p'⟩ (by simp; omega) fun g all => ⟨rfl, ?_⟩
    have kp : ∀ c o, c ∉ [z, a, b, i1, i2] → s.heap.get? c = some o → g.get? c = some o := fun c o hc e => by
      simp only [List.mem_cons, List.mem_nil_iff, or_false, not_or] at hc
      exact all c o hc.1 hc.2.2.1 hc.2.2.2.1 hc.2.2.2.2 e
    have trk : ∀ c u, H c = some u → c ∉ [z, a, b, i1, i2] := fun c u e hc => by rw [(hf c hc).1] at e; cases e
    refine I.step (g' := s.gens) (d' := s.drawn) (t' := s.toks) (ch := [z, a, b, i1, i2]) (fun c hc => ?_) (fun c o _ _ hc e _ => kp c o hc e) (fun c o _ _ hc e _ => ⟨o.slots, kp c o hc e⟩) (fun c o _ e n => n)
        (fun c o hc e => ⟨o, kp c o hc e⟩) (fun c vs e => e) (fun c o vs e => e) (fun c ps e => ⟨#[], by rw [e]; simp⟩) (fun m hm => ?_) (fun c v e => ?_) I.bare
    · obtain ⟨f0, f1, f2, f3, f4, f5⟩ := hf c hc
      exact ⟨f3, f1, f4, f5⟩
    · obtain ⟨o, es, ep, ho, r⟩ := hm
      exact ⟨o, es, ep, kp _ o (fun hc => (hf _ hc).2.1 rfl) ho, r⟩
    · refine (I.hok c v e).stay (fun d o hd q => kp d o ?_ q) (fun d q => q) fun d ts q => q
      rcases hd with rfl | hd
      · exact trk _ _ e
      · exact trk _ _ hd
  self := fun _ _ _ _ _ st h => wpAny_pyIter_zip st.1 h
section
variable {X : Cx}
noncomputable def iZip (K : PySem.W.Frag) (ta : TA) : TI := fun σ H R => ta σ H fun vs H1 => ∃ l1 l2, vs = [.ref l1, .ref l2] ∧ (∃ xs, SqT K H1 l1 xs) ∧ (∃ ys, SqT K H1 l2 ys) ∧ R (Itz K l1 l2) H1
theorem pi_zip {a b : Expr} {ta : TA} {p pos pt : Pos} {elts : List Expr} {x1} (hg : Gl X "zip") (hm : X.mg "zip" = none) (ha : PA X [a, b] ta) (hs : starEach [a, b] X.env = [(false, eval a X.env), (false, eval b X.env)] := by rfl) (hs2 : starEach [b] X.env = [(false, eval b X.env)] := by rfl) :
    PI X (.Tuple elts x1 pt) (.Call (.Name "zip" p) [a, b] [] pos) (iZip X.K ta) := by
  intro pins s σ H R I h
  refine Call_ (ld_blt I hg hm boot_zip (PyProof.Rows.callWith_type1 (thn (ha pos pins s σ H _ I h) fun us s1 ⟨vs, H1, I1, r1, q1⟩ => ?_) (by rw [hs, hs2]) (by rw [hs2]; rfl)))
  obtain ⟨l1, l2, e, ⟨xs, q1⟩, ⟨ys, q2⟩, q⟩ := q1
  subst e
  cases r1 with
  | cons r rr =>
    cases rr with
    | cons r' rr =>
      cases rr
      cases (show _ = Value.ref l1 from r)
      cases (show _ = Value.ref l2 from r')
      obtain ⟨its, rv, p1, _⟩ := I1.tuple q1
      obtain ⟨its', rv', p2, _⟩ := I1.tuple q2
      have a1 : l1 < s1.heap.objs.size := by obtain ⟨_, e, _⟩ := p1; exact Heap.lt_size e
      have a2 : l2 < s1.heap.objs.size := by obtain ⟨_, e, _⟩ := p2; exact Heap.lt_size e
      refine callZip (show s1.heap.IsTuple l1 its.toArray from p1) (show s1.heap.IsTuple l2 its'.toArray from p2) fun g Z all => ?_
      refine wpAny_pyIter_zip (s := { s1 with heap := g }) Z.z ?_
      refine ⟨_, _, _, _, H1, rfl, I1.kept (t' := s1.toks) all, turn_zip (PyProof.Rows.zipApart_new a1 a2), ⟨Z.z, Z.a, Z.b, Z.i1, Z.i2⟩, fun b hb => ?_, q⟩
      have ge : s1.heap.objs.size ≤ b := by
        simp only [List.mem_cons, List.mem_nil_iff, or_false] at hb
        rcases hb with rfl | rfl | rfl | rfl | rfl
        · exact Nat.le_add_right _ 4
        · exact Nat.le_add_right _ 2
        · exact Nat.le_add_right _ 3
        · exact Nat.le_refl _
        · exact Nat.le_add_right _ 1
      exact I1.fpOk ge (I1.hok.fresh ge)
end
end L2
end

section
set_option Elab.async false
set_option linter.all false
set_option maxRecDepth 100000
set_option maxHeartbeats 4000000
namespace L2
open PySem PySem.Spec PyProof.Rows
theorem weight_in : ∀ (ns : List Int) (n : Int), n ∈ ns → PySem.W.WData.weight (.int n) ≤ PySem.W.WData.weightAll (ns.map PySem.W.WData.int)
  | m :: ns, n, h => by
    rw [List.map_cons, PySem.W.WData.weightAll]
    rcases List.mem_cons.mp h with rfl | h
    · omega
    · have := weight_in ns n h
      omega
theorem walkB {l : PySem.W.OpenLaw} {n k : Nat} {q : Program} {loose : List Str} {XP : (Str → Option Value) → Heap → Prop} {YP : World → Heap → Prop} {d : DefRec} {K : Params → PySem.W.Frag} {sp : PySem.W.Frag → Sp} {x : Str}
    (hn : l.most = some n) (hn2 : n ≤ sizeLine) (hdf : d.params.defaults = []) (hr : Room k callerA) (hY : ∀ (w : World) (h : Heap), YP w h → (K w.params).In h)
    (F : ∀ (w : World) (mg : Str → Option Value) (fa : Addr) (h : Heap), (K w.params).In h → h.Ns mainGlobals mg → mg d.name = some (.ref fa) →
      ∃ fd : FuncData, (∀ (s : Shared) (u : Value), BindsTo s fd ⟨[u], []⟩ [(x, u)]) ∧ ∀ base : Heap, (K w.params).In base → base.Ns mainGlobals mg → FnOk l.prog w (K w.params) mg base CX0 k fa fd [x] (sp (K w.params)))
    (hsp : ∀ (K : PySem.W.Frag) (H : Hp) (a : Addr) (ns : List Int), ns.length ≤ n → (∀ v ∈ ns, Builtin.Int.intBits v ≤ 2 ^ 20) → SqL K H a (ns.map V.int) → sp K [.ref a] H (fun v _ => v = .bl true) fun _ _ _ => False) :
    PySem.W.WalkO q loose XP YP l.row.toRowW d [] (fun f vs => PySem.call f vs) := by
  intro w s₀ s₁ mg mb G Y fa o pm cd doc dV kV ho hd hcd hD hmg hg args vals as hpre hlay hrd hwl hlo
  obtain rfl : dV = .none := PySem.W.Dflts.none hD hdf
  obtain rfl : kV = .none := PySem.W.Dflts.noKw hD
  obtain ⟨a, vs, ns, rfl, rfl, hobj, hints, hlen⟩ := Att.script_of hn hpre hwl
  have bits : ∀ v ∈ ns, Builtin.Int.intBits v ≤ 2 ^ 20 := fun v hv => by
    have h1 : PySem.W.WData.layable (.list (ns.map PySem.W.WData.int)) = true := by
      have h2 : [PySem.W.WData.list (ns.map PySem.W.WData.int)].all PySem.W.WData.layable = true := hlay
      simpa only [List.all_cons, List.all_nil, Bool.and_true] using h2
    have h3 := (PySem.W.layableW_iff.mp h1).2.2
    have h4 := weight_in ns v hv
    rw [PySem.W.WData.weight] at h3
    have h5 : PySem.W.WData.weight (.int v) = Builtin.Int.intBits v := by first | rfl | simp only [PySem.W.WData.weight, Builtin.Int.intBits]
    omega
  have KX := hY w _ Y
  obtain ⟨fd, hb, hF⟩ := F w mg fa _ KX G.T.g hmg
  have call := law_call KX G.T.g G.T.b G.T.builtins G.T.nolimit hg hobj hints (Nat.le_trans hlen hn2) hr hF hb (fun H hO hS => hsp (K w.params) H a ns hlen bits hS) fun H e s' z => z
  refine PySem.W.enter_call (codeAny_mono call fun r s' hq => ?_)
  obtain ⟨rfl, h2, h3, h4⟩ := hq
  exact ⟨.inl ⟨.bool true, .bool true, [], rfl, fun _ => rfl, .bool true, Att.post_true l _, fun _ => ⟨List.Pairwise.nil, fun _ hm => (nomatch hm)⟩⟩, h2, h3, h4⟩
end L2
end

section
set_option Elab.async false
set_option linter.all false
set_option maxRecDepth 100000
set_option maxHeartbeats 4000000
namespace L2
open PySem PySem.Spec PyProof.Rows
open PySem.W (Dat kqdP kqdPs kqdOk)
noncomputable def Tm (H H' : Hp) : Prop := ∀ (K : PySem.W.Frag) (a : Addr) (xs : List V), SqT K H a xs → SqT K H' a xs
theorem Tm.refl (H : Hp) : Tm H H := fun _ _ _ h => h
theorem Tm.trans {H H1 H2 : Hp} (a : Tm H H1) (b : Tm H1 H2) : Tm H H2 := fun K c o h => b K c o (a K c o h)
theorem Same.tm {H H' : Hp} (e : Same H H') : Tm H H' := fun _ _ _ h => e.tup h
theorem Tm.lst {H : Hp} {D : Addr} {ys : List V} (h : H D = some (.lst ys)) (o : HO) : Tm H (upd H D o) := fun K a xs q => by
  rcases q with (q | ⟨ob, q⟩) | q
  · exact .inl (.inl (by rw [upd_ne (ne_of q h (fun z => by cases z))]; exact q))
  · exact .inl (.inr ⟨ob, by rw [upd_ne (ne_of q h (fun z => by cases z))]; exact q⟩)
  · exact .inr q
theorem Same.snoc {H H5 : Hp} {D : Addr} {o : HO} (h : Same H H5) (hn : H D = Option.none) : Same H (upd H5 D o) := fun b u e => by rw [upd_ne (ne_of_none e hn)]; exact h b u e
mutual
inductive Fz (K : PySem.W.Frag) (H : Hp) : V → Dat → Prop
  | none : Fz K H .non .none
  | bool (b : Bool) : Fz K H (.bl b) (.bool b)
  | int (i : Int) : Fz K H (.int i) (.int i)
  | str (x : Str) : Fz K H (.str x) (.str x)
  | tup {a : Addr} {xs : List V} {ds : List Dat} : SqT K H a xs → Fzs K H xs ds → Fz K H (.ref a) (.tuple ds)
inductive Fzs (K : PySem.W.Frag) (H : Hp) : List V → List Dat → Prop
  | nil : Fzs K H [] []
  | cons {x : V} {d : Dat} {xs : List V} {ds : List Dat} : Fz K H x d → Fzs K H xs ds → Fzs K H (x :: xs) (d :: ds)
end
section
variable {K : PySem.W.Frag} {H H' : Hp}
mutual
theorem Fz.tm (e : Tm H H') : ∀ {v : V} {d : Dat}, Fz K H v d → Fz K H' v d
  | _, _, .none => .none
  | _, _, .bool b => .bool b
  | _, _, .int i => .int i
  | _, _, .str x => .str x
  | _, _, .tup h r => .tup (e _ _ _ h) (Fzs.tm e r)
theorem Fzs.tm (e : Tm H H') : ∀ {v : List V} {d : List Dat}, Fzs K H v d → Fzs K H' v d
  | _, _, .nil => .nil
  | _, _, .cons h r => .cons (Fz.tm e h) (Fzs.tm e r)
end
theorem Fzs.length : ∀ {v : List V} {d : List Dat}, Fzs K H v d → v.length = d.length
  | _, _, .nil => rfl
  | _, _, .cons _ r => by rw [List.length_cons, List.length_cons, Fzs.length r]
theorem Fzs.snoc : ∀ {v : List V} {d : List Dat} {x : V} {e : Dat}, Fzs K H v d → Fz K H x e → Fzs K H (v ++ [x]) (d ++ [e])
  | _, _, _, _, .nil, h => .cons h .nil
  | _, _, _, _, .cons a r, h => .cons a (Fzs.snoc r h)
theorem Fzs.ints_inv : ∀ {vs : List V} {ns : List Int}, Fzs K H vs (ns.map Dat.int) → vs = ns.map V.int
  | _, [], h => by cases h; rfl
  | _, n :: ns, h => by
    cases h with
    | cons a r =>
      cases a
      rw [Fzs.ints_inv r]; rfl
end
section
variable {K : PySem.W.Frag} {te : TE} {σ : St} {H : Hp} {Q : VK}
theorem comp_by {J : It} {g : TG} {no n : Nat} (ds : List Dat) (hn : ds.length = n) (hz : n ≤ sizeLine) {Pσ : Nat → St → Prop} (h0 : Pσ 0 (List.replicate no none ++ σ))
    (stop : ∀ H', Same H H' → J.stop n H') (go : ∀ i H', i < n → Same H H' → J.go i H')
    (turn : ∀ i σ' H' d, ds[i]? = some d → Same H H' → Pσ i σ' → ∀ x H2, J.yld i H' x H2 → g x σ' H2 fun σ3 H3 => te σ3 H3 fun v H5 => Pσ (i + 1) σ3 ∧ Same H' H5 ∧ Fz K H5 v d)
    (mono : ∀ x σ' H2 Q1 Q2, (∀ σ3 H3, Q1 σ3 H3 → Q2 σ3 H3) → g x σ' H2 Q1 → g x σ' H2 Q2) (monoE : ∀ σ' H2 Q1 Q2, (∀ v H3, Q1 v H3 → Q2 v H3) → te σ' H2 Q1 → te σ' H2 Q2)
    (fin : ∀ D H' ys, Same H H' → H' D = some (.lst ys) → H D = Option.none → Fzs K H' ys ds → Q (.ref D) H') :
    CompW no (J) g tAll te σ H Q := by
  intro D hD
  refine ⟨fun i m σ' H' => m = n - i ∧ i ≤ n ∧ Pσ i σ' ∧ Same H H' ∧ ∃ ys, H' D = some (.lst ys) ∧ Fzs K H' ys (ds.take i), ⟨n, by omega, Nat.zero_le _, h0, Same.new hD _, [], upd_same, .nil⟩, ?_⟩
  rintro i m σ' H' ⟨rfl, hi, hp, hs, ys, hy, hf⟩
  by_cases hlt : i < n
  · refine .inr ⟨go i H' hlt hs, fun x H2 hy2 => ?_⟩
    obtain ⟨d, hd⟩ : ∃ d, ds[i]? = some d := ⟨ds[i], by simp⟩
    refine mono _ _ _ _ _ (fun σ3 H3 h3 => ?_) (turn i σ' H' d hd hs hp x H2 hy2)
    unfold tAll
    dsimp only
    rw [if_pos rfl]
    refine monoE _ _ _ _ (fun v H5 h5 => ?_) h3
    obtain ⟨p5, s5, f5⟩ := h5
    have l : ys.length = i := by rw [hf.length, List.length_take]; omega
    refine ⟨ys, s5 _ _ hy, by omega, n - (i + 1), by omega, rfl, hlt, p5, (hs.trans s5).snoc hD, ys ++ [v], upd_same, ?_⟩
    have tm := Tm.lst (s5 _ _ hy) (.lst (ys ++ [v]))
    rw [List.take_add_one, hd]
    exact ((hf.tm s5.tm).tm tm).snoc (f5.tm tm)
  · have e : i = n := by omega
    subst e
    refine .inl ⟨stop H' hs, fin D H' ys hs hy hD ?_⟩
    rw [← hn, List.take_length] at hf
    exact hf
theorem gName_mono {i : Nat} : ∀ x σ' H2 Q1 Q2, (∀ σ3 H3, Q1 σ3 H3 → Q2 σ3 H3) → gName i x σ' H2 Q1 → gName i x σ' H2 Q2 := fun _ _ _ _ _ h q => h _ _ q
theorem comp_tup {a : Addr} {xs : List V} (ds : List Dat) (hS : SqT K H a xs) (hn : ds.length = xs.length) (hz : xs.length ≤ sizeLine)
    (turn : ∀ (i : Nat) x H' d, xs[i]? = some x → ds[i]? = some d → Same H H' → te (some x :: σ) H' fun v H5 => Same H' H5 ∧ Fz K H5 v d)
    (monoE : ∀ σ' H2 Q1 Q2, (∀ v H3, Q1 v H3 → Q2 v H3) → te σ' H2 Q1 → te σ' H2 Q2)
    (fin : ∀ D H' ys, Same H H' → H' D = some (.lst ys) → H D = Option.none → Fzs K H' ys ds → Q (.ref D) H') :
    CompW 1 (Itt K a) (gName 0) tAll te σ H Q := by
  refine comp_by (J := Itt K a) (K := K) ds hn hz (Pσ := fun _ σ' => ∃ o, σ' = o :: σ) ⟨none, rfl⟩ (fun H' s => ⟨xs, s.tup hS, Nat.le_refl _⟩) (fun i H' hi s => ⟨xs, xs[i], s.tup hS, by simp [hi]⟩) ?_ gName_mono monoE fin
  rintro i σ' H' d hd s ⟨o, rfl⟩ x H2 ⟨rfl, hy⟩
  have hx := hy xs (s.tup hS)
  refine monoE _ _ _ _ (fun v H3 h => ?_) (turn i x H2 d hx hd s)
  exact ⟨⟨_, rfl⟩, h⟩
noncomputable def gPair (K : PySem.W.Frag) : TG := gTup K 2 (gCons (gName 0) (gCons (gName 1) gNil))
theorem comp_zip {l1 l2 : Addr} {xs ys : List V} (ds : List Dat) (h1 : SqT K H l1 xs) (h2 : SqT K H l2 ys) (hl : ys.length = xs.length) (hn : ds.length = xs.length) (hz : xs.length ≤ sizeLine)
    (turn : ∀ (i : Nat) x y H' d, xs[i]? = some x → ys[i]? = some y → ds[i]? = some d → Same H H' → te (some x :: some y :: σ) H' fun v H5 => Same H' H5 ∧ Fz K H5 v d)
    (monoE : ∀ σ' H2 Q1 Q2, (∀ v H3, Q1 v H3 → Q2 v H3) → te σ' H2 Q1 → te σ' H2 Q2)
    (fin : ∀ D H' ys, Same H H' → H' D = some (.lst ys) → H D = Option.none → Fzs K H' ys ds → Q (.ref D) H') :
    CompW 2 (Itz K l1 l2) (gPair K) tAll te σ H Q := by
  refine comp_by (J := Itz K l1 l2) (K := K) ds hn hz (Pσ := fun _ σ' => ∃ o p, σ' = o :: p :: σ) ⟨none, none, rfl⟩ (fun H' s => ⟨xs, s.tup h1, Nat.le_refl _, ys, s.tup h2⟩) (fun i H' hi s => ⟨xs, ys, xs[i], ys[i], s.tup h1, s.tup h2, by simp [hi], by simp [hl, hi]⟩) ?_ ?_ monoE fin
  · rintro i σ' H' d hd s ⟨o, o', rfl⟩ x H2 ⟨p, hp, rfl, hy⟩
    have hi : i < xs.length := by
      have := (List.getElem?_eq_some_iff.mp hd).1
      omega
    have ex : xs[i]? = some xs[i] := by simp [hi]
    have ey : ys[i]? = some (ys[i]'(by omega)) := by simp [hl, hi]
    have e2 := hy xs ys _ _ (s.tup h1) (s.tup h2) ex ey
    subst e2
    have s2 : Same H' (upd H' p (.tup [xs[i], ys[i]'(by omega)])) := Same.new hp _
    refine ⟨p, _, rfl, SqT.of upd_same, rfl, _, _, rfl, _, _, rfl, rfl, ?_⟩
    refine monoE _ _ _ _ (fun v H3 h => ?_) (turn i _ _ _ d ex ey hd (s.trans s2))
    exact ⟨⟨_, _, rfl⟩, s2.trans h.1, h.2⟩
  · rintro x σ' H2 Q1 Q2 hq ⟨a, vs, e1, e2, e3, v1, r1, e4, v2, r2, e5, e6, q⟩
    exact ⟨a, vs, e1, e2, e3, v1, r1, e4, v2, r2, e5, e6, hq _ _ q⟩
theorem pg_pair {X : Cx} {own : List Str} {scope : Scope} {C : Addr} {fp : List Addr} {s : Shared} {H : Hp} {x y : Str} {px py pos : Pos} {k : Nat} (hc : X.calm = true) (nd : (cxComp X own scope C fp s H).N.Nodup) (h0 : (cxComp X own scope C fp s H).N[0]? = some x) (h1 : (cxComp X own scope C fp s H).N[1]? = some y)
    (l0 : (cxComp X own scope C fp s H).env.scope.names.lookup x = some .local) (l1 : (cxComp X own scope C fp s H).env.scope.names.lookup y = some .local) : PG (cxComp X own scope C fp s H) (.Tuple [.Name x px, .Name y py] k pos) (gPair X.K) :=
  pg_tup (X := cxComp X own scope C fp s H) (n := 2) hc (pgs_cons (pg_name (i := 0) nd h0 (Or.inl l0) (Or.inr l0)) (pgs_cons (pg_name (i := 1) nd h1 (Or.inl l1) (Or.inr l1)) pgs_nil))
end
end L2
end

section
set_option Elab.async false
set_option linter.all false
set_option maxRecDepth 100000
set_option maxHeartbeats 4000000
namespace L2
open PySem PySem.Spec PyProof.Rows
section
variable {X : Cx} {es : List Expr} {t : TA} {te : TE}
theorem pa_i {i : Int} {j : Nat} {p : Pos} (hr : PA X es t) : PA X (.Constant (.int i) j p :: es) (tCons (tC (.int i)) t) := pa_cons pe_int hr rfl
theorem pa_n {x : Str} {p : Pos} (ha : PE X (.Name x p) te) (hr : PA X es t) : PA X (.Name x p :: es) (tCons te t) := pa_cons ha hr rfl
theorem pa_b {a b : Expr} {op : Operator} {p : Pos} (ha : PE X (.BinOp a op b p) te) (hr : PA X es t) : PA X (.BinOp a op b p :: es) (tCons te t) := pa_cons ha hr rfl
theorem pa_s {a b : Expr} {p : Pos} (ha : PE X (.Subscript a b p) te) (hr : PA X es t) : PA X (.Subscript a b p :: es) (tCons te t) := pa_cons ha hr rfl
theorem pa_c {f : Expr} {a : List Expr} {k : List Keyword} {p : Pos} (ha : PE X (.Call f a k p) te) (hr : PA X es t) : PA X (.Call f a k p :: es) (tCons te t) := pa_cons ha hr rfl
theorem pa_t {a : List Expr} {p : Pos} {k : Nat} (ha : PE X (.Tuple a k p) te) (hr : PA X es t) : PA X (.Tuple a k p :: es) (tCons te t) := pa_cons ha hr rfl
theorem pa_l {a : List Expr} {p : Pos} (ha : PE X (.List a p) te) (hr : PA X es t) : PA X (.List a p :: es) (tCons te t) := pa_cons ha hr rfl
theorem pix_call {f : Expr} {a : List Expr} {k : List Keyword} {p : Pos} : PlainIx (.Call f a k p) := fun _ _ => rfl
theorem sw_sub {a b : Expr} {p : Pos} {t : Option Expr} {l : Nat} {env : Env} : swapsWith (.Subscript a b p) t l env = pure false := rfl
end
end L2
end

section
set_option Elab.async false
set_option linter.all false
set_option maxRecDepth 100000
set_option maxHeartbeats 4000000
namespace L2
open PySem PySem.Spec PyProof.Rows
open PySem.W (Dat)
section
variable {K : PySem.W.Frag} {H : Hp} {σ : St} {te : TE} {tt : TT} {Q : VK} {J : It} {xs : List V}
end
theorem ixN_of {n : Nat} {d : Int} (h0 : 0 ≤ d) (h1 : d < (n : Int)) : ixN n d = some d.toNat := by
  unfold ixN
  rw [if_pos h0, if_pos h1]
theorem kqd_ints (ns : List Int) (n : Nat) : (ns.map Dat.int).all (PySem.W.kqdOk n) = true := by
  rw [List.all_map, List.all_eq_true]
  intro x _
  cases n <;> rfl
theorem kqd_tup {ns : List Int} : PySem.W.kqdOk 9 (.tuple (ns.map .int)) = true := kqd_ints ns 8
theorem map_int_inj {ns ms : List Int} (h : ns.map Dat.int = ms.map Dat.int) : ns = ms := by
  induction ns generalizing ms with
  | nil => cases ms with
    | nil => rfl
    | cons b r => cases h
  | cons a r ih => cases ms with
    | nil => cases h
    | cons b r' =>
      rw [List.map_cons, List.map_cons] at h
      injection h with h1 h2
      injection h1 with h1
      rw [h1, ih h2]
theorem deq_tup {ns ms : List Int} : deq (.tuple (ns.map .int)) (.tuple (ms.map .int)) = decide (ns = ms) := by
  by_cases h : ns = ms
  · subst h; rw [deq_self, decide_eq_true rfl]
  · rw [decide_eq_false h]
    exact deq_ne fun z => h (map_int_inj (by injection z))
theorem pe_tyn {X : Cx} {x : Str} {T : String} {pos : Pos} (hg : Gl X x) (hm : X.mg x = none) (hv : bootBuiltins x = some (.type T)) (hn : x ≠ "__name__" := by decide) (hd : (x == ("__debug__" : Str)) = false := by decide) : PE X (.Name x pos) (tC (.ty T)) :=
  pe_bltn (v := .ty T) hg hm hv rfl hn hd
end L2
end

section
set_option Elab.async false
set_option linter.all false
set_option maxRecDepth 100000
set_option maxHeartbeats 4000000
namespace L2
open PySem PySem.Spec PyProof.Rows
noncomputable def DefAt (K : PySem.W.Frag) (x : Str) (st : Stmt) : Prop := ∃ (f : Addr) (oc : Value) (od : Option Addr) (kV dc pm : Value) (an : Option Addr) (cd ct : Value) (sl : Array (Option Value)),
  PySem.W.nsIn K mainGlobals x = some (some (.ref f)) ∧ K.lookup f = some ⟨oc, od, .func (PySem.W.fnOf x x (defArgs st) (defBody st) (defScope st) .none kV dc pm an cd ct), sl⟩ ∧ PySem.W.codeIn K cd x = true ∧ PySem.W.keepIn K (.ref f) = true
theorem DefAt.mk {K : PySem.W.Frag} {x : Str} {st : Stmt} {f : Addr} {oc : Value} {od : Option Addr} {kV dc pm : Value} {an : Option Addr} {cd ct : Value} {sl : Array (Option Value)} (a : PySem.W.nsIn K mainGlobals x = some (some (.ref f)))
    (l : K.lookup f = some ⟨oc, od, .func (PySem.W.fnOf x x (defArgs st) (defBody st) (defScope st) .none kV dc pm an cd ct), sl⟩) (c : PySem.W.codeIn K cd x = true) (k : PySem.W.keepIn K (.ref f) = true) : DefAt K x st := ⟨f, oc, od, kV, dc, pm, an, cd, ct, sl, a, l, c, k⟩
theorem DefAt.get {K : PySem.W.Frag} {x : Str} {st : Stmt} {h : Heap} {mg : Str → Option Value} (d : DefAt K x st) (X : K.In h) (G : h.Ns mainGlobals mg) : ∃ (f : Addr) (fd : FuncData), Fun K x x st f fd ∧ mg x = some (.ref f) ∧ PySem.W.keepIn K (.ref f) = true := by
  obtain ⟨f, oc, od, kV, dc, pm, an, cd, ct, sl, a, l, c, k⟩ := d
  exact ⟨f, _, fun_mk l c k, PySem.W.mg_of X G a, k⟩
theorem DefAt.law {K : PySem.W.Frag} {x y : Str} {st : Stmt} {h : Heap} {mg : Str → Option Value} {fa : Addr} (d : DefAt K x st) (X : K.In h) (G : h.Ns mainGlobals mg) (hfa : mg x = some (.ref fa))
    (hb : ∀ (kV doc pm : Value) (an : Option Addr) (cdv ct : Value) (u : Value), bindArgs (PySem.W.fnOf x x (defArgs st) (defBody st) (defScope st) .none kV doc pm an cdv ct) ⟨[u], []⟩ = pure [(y, u)]) : ∃ (fd : FuncData), Fun K x x st fa fd ∧ ∀ (s : Shared) (v : Value), BindsTo s fd ⟨[v], []⟩ [(y, v)] := by
  obtain ⟨f, oc, od, kV, dc, pm, an, cd, ct, sl, a, l, c, k⟩ := d
  have e := hfa.symm.trans (PySem.W.mg_of X G a)
  cases e
  exact ⟨_, fun_mk l c k, fun s v => .of_eq (hb kV dc pm an cd ct v)⟩
end L2
end

section
set_option Elab.async false
set_option linter.all false
set_option maxRecDepth 100000
set_option maxHeartbeats 4000000
namespace L2
open PySem PySem.Spec PyProof.Rows
structure ZE (X : Cx) (e : Expr) (t : TE) : Prop where out : PE X e t
structure ZT (X : Cx) (e : Expr) (t : TT) : Prop where out : PT X e t
structure ZW (X : Cx) (e : Expr) (t : TT) : Prop where out : PW X e t
structure ZA (X : Cx) (es : List Expr) (t : TA) : Prop where out : PA X es t
structure ZS (X : Cx) (st : Stmt) (t : TS) : Prop where out : PS X st t
structure ZSs (X : Cx) (st : List Stmt) (t : TS) : Prop where out : PSs X st t
structure ZG (X : Cx) (e : Expr) (t : TG) : Prop where out : PG X e t
structure ZGs (X : Cx) (es : List Expr) (t : TGs) : Prop where out : PGs X es t
structure ZI (X : Cx) (tg iter : Expr) (wi : TI) : Prop where out : PI X tg iter wi
structure ZTs (X : Cx) (es : List Expr) (t : TT) : Prop where out : PTs X es t
section
variable {X : Cx} {a b c e tg : Expr} {es : List Expr} {te ta tb tc : TE} {t : TA} {pos p p2 : Pos} {x : Str}
theorem zss_nil : ZSs X [] tNext := ⟨pss_nil⟩
theorem zss_cons {st : Stmt} {rest : List Stmt} {t u : TS} (h1 : ZS X st t) (h2 : ZSs X rest u) : ZSs X (st :: rest) (tSeq t u) := ⟨pss_cons h1.out h2.out⟩
theorem zss_one {st : Stmt} {t : TS} (h1 : ZS X st t) : ZSs X [st] t := ⟨pss_one h1.out⟩
theorem zs_set {i : Nat} {pos' : Pos} (hN : X.N.Nodup) (hi : X.N[i]? = some x) (hx : Loc X.env.scope x) (he : ZE X e te) (hs : swapsWith e (some (.Name x pos')) pos.line X.env = pure false := by rfl) (hf : X.fn x = true ∨ X.env.scope.names.lookup x = some .local := by first | exact .inl rfl | exact .inr rfl | assumption) :
    ZS X (.Assign [.Name x pos'] e pos) (tAsg te (gName i)) := ⟨ps_set hN hi hx he.out hs hf⟩
theorem zs_for {iter : Expr} {body : List Stmt} {wi : TI} {g : TG} {tb : TS} (hp : PassesOwn (model X.prog X.w) X.A X.env X.xe) (hc : X.calm = true) (hi : ZI X tg iter wi) (hg : ZG X tg g) (hb : ZSs X body tb)
    (hs : ∀ x, foldedSetIterable iter X.env x = pure x := by intro _; rfl) : ZS X (.For tg iter body [] pos) (tFor wi g tb) := ⟨ps_for hp hc hi.out hg.out hb.out hs⟩
theorem zs_while {body : List Stmt} {tc : TT} {tb : TS} (hp : PassesOwn (model X.prog X.w) X.A X.env X.xe) (hc : ZT X c tc) (hb : ZSs X body tb) : ZS X (.While c body [] pos) (tWhile tc tb) := ⟨ps_while hp hc.out hb.out⟩
theorem zs_if {l m : List Stmt} {tc : TT} {t u : TS} (hc : ZT X c tc) (ha : ZSs X l t) (hb : ZSs X m u) : ZS X (.If c l m pos) (tIfS tc t u) := ⟨ps_if hc.out ha.out hb.out⟩
theorem zs_ret (he : ZE X e te) : ZS X (.Return (some e) pos) (tRet te) := ⟨ps_ret he.out⟩
theorem zs_expr (he : ZE X e te) (hs : swapsWith e none pos.line X.env = pure false := by rfl) : ZS X (.Expr e pos) (tDrop te) := ⟨ps_expr he.out hs⟩
theorem zs_asg {g : TG} (he : ZE X e te) (hg : ZG X tg g) (hs : swapsWithSole [tg] e pos.line X.env = pure false := by rfl) (hw : swappedStores [tg] e X.env = pure none := by rfl)
    (h1 : (assignEach [tg] X.env).map (·.2) = [assign tg X.env] := by rfl) : ZS X (.Assign [tg] e pos) (tAsg te g) := ⟨ps_asg he.out hg.out hs hw h1⟩
theorem zs_par {i j : Nat} {y : Str} {ta : TA} {px py pt : Pos} {kt k2 pt2} (hc : X.calm = true) (hN : X.N.Nodup) (hi : X.N[i]? = some x) (hj : X.N[j]? = some y) (hij : i ≠ j)
    (hx : X.env.scope.names.lookup x = some .local) (hy : X.env.scope.names.lookup y = some .local) (ha : ZA X [a, b] ta)
    (hw : swappedStores [.Tuple [.Name x px, .Name y py] kt pt] (.Tuple [a, b] k2 pt2) X.env = pure (some [x, y]))
    (hs : swapsWithSole [.Tuple [.Name x px, .Name y py] kt pt] (.Tuple [a, b] k2 pt2) pos.line X.env = pure false := by rfl) :
    ZS X (.Assign [.Tuple [.Name x px, .Name y py] kt pt] (.Tuple [a, b] k2 pt2) pos) (tPar i j ta) := ⟨ps_par hc hN hi hj hij hx hy ha.out hw hs⟩
theorem ze_int {i j} : ZE X (.Constant (.int i) j pos) (tC (.int i)) := ⟨pe_int⟩
theorem ze_bl {b j} : ZE X (.Constant (.bool b) j pos) (tC (.bl b)) := ⟨pe_bl⟩
theorem zv (i : Nat) (hN : X.N[i]? = some x := by rfl) (hv : Vis X.env.scope x := by first | exact Or.inl rfl | exact Or.inr (Or.inl rfl) | exact Or.inr (Or.inr rfl)) (hd : (x == ("__debug__" : Str)) = false := by decide)
    (hcd : (x == ("__classdict__" : Str)) = false := by decide) : ZE X (.Name x pos) (tVar i) := ⟨pe_var hN hv hd hcd⟩
theorem ze_glob {v : V} {u : Value} (hg : Gl X x) (hm : X.mg x = some u) (r : RelV v u) (hd : (x == ("__debug__" : Str)) = false := by decide) : ZE X (.Name x pos) (tC v) := ⟨pe_glob hg hm r hd⟩
theorem ze_tyn {T : String} (hg : Gl X x) (hm : X.mg x = none) (hv : bootBuiltins x = some (.type T)) (hn : x ≠ "__name__" := by decide) (hd : (x == ("__debug__" : Str)) = false := by decide) : ZE X (.Name x pos) (tC (.ty T)) := ⟨pe_tyn hg hm hv hn hd⟩
theorem ze_op {op : Operator} {r : R2} (ho : OpR X (binaryOp op) r) (ha : ZE X a ta) (hb : ZE X b tb) : ZE X (.BinOp a op b pos) (tOp r ta tb) := ⟨pe_op ho ha.out hb.out⟩
theorem ze_un {op : UnaryOp} {r : V → Hp → VK → Prop} (ho : UnR X (unaryOp op) r) (ha : ZE X a ta) : ZE X (.UnaryOp op a pos) (tUn r ta) := ⟨pe_un ho ha.out⟩
theorem ze_cmpR {op : CmpOp} {r : R2} (ho : OpR X (compareOp op) r) (ha : ZE X a ta) (hb : ZE X b tb) (hm : behindInMarks op b = false) : ZE X (.Compare a [op] [b] pos) (tOp r ta tb) := ⟨pe_cmpR ho ha.out hb.out hm⟩
theorem zt_cmpR {op : CmpOp} {r : R2} (ho : OpR X (compareOp op) r) (ha : ZE X a ta) (hb : ZE X b tb) (hm : behindInMarks op b = false) : ZT X (.Compare a [op] [b] pos) (tTest (tOp r ta tb)) := ⟨pt_cmpR ho ha.out hb.out hm⟩
theorem zt_val {t : TE} (h : ZE X e t) (he : ∀ whole, isTrue e X.env whole = (do let v ← whole; standAt e.pos; holding [v] (truthy v)) := by intro _; rfl) : ZT X e (tB t) := ⟨pt_val h.out he⟩
theorem zt_not {tA : TT} (ha : ZT X a tA) : ZT X (.UnaryOp .Not a pos) (tNot tA) := ⟨pt_not ha.out⟩
theorem ZW.pt {t : TT} (h : ZW X e t) : ZT X e t := ⟨h.out.pt⟩
theorem zw_and1 {tA : TT} (ha : ZT X a tA) : ZW X (.BoolOp .And [a] pos) tA := ⟨pw_and1 ha.out⟩
theorem zw_or1 {tA : TT} (ha : ZT X a tA) : ZW X (.BoolOp .Or [a] pos) tA := ⟨pw_or1 ha.out⟩
theorem zw_and {tA tB' : TT} (ha : ZT X a tA) (hb : ZW X (.BoolOp .And (b :: es) pos) tB') : ZW X (.BoolOp .And (a :: b :: es) pos) (tAnd tA tB') := ⟨pw_and ha.out hb.out⟩
theorem zw_or {tA tB' : TT} (ha : ZT X a tA) (hb : ZW X (.BoolOp .Or (b :: es) pos) tB') : ZW X (.BoolOp .Or (a :: b :: es) pos) (tOr tA tB') := ⟨pw_or ha.out hb.out⟩
theorem ze_one {op} (h : ZE X a ta) : ZE X (.BoolOp op [a] pos) ta := ⟨pe_one h.out⟩
theorem ze_and (ha : ZE X a ta) (hb : ZE X (.BoolOp .And (b :: es) pos) tb) : ZE X (.BoolOp .And (a :: b :: es) pos) (tAndV ta tb) := ⟨pe_and ha.out hb.out⟩
theorem ze_ix {r : R2} (hr : IxR X r) (ha : ZE X a ta) (hb : ZE X b tb) (hs : PlainIx b) : ZE X (.Subscript a b pos) (tOp r ta tb) := ⟨pe_ix hr ha.out hb.out hs⟩
theorem ze_lst (h : ZA X es t) : ZE X (.List es pos) (tLst t) := ⟨pe_lst h.out⟩
theorem ze_tup {x1} (h : ZA X es t) : ZE X (.Tuple es x1 pos) (tTup t) := ⟨pe_tup h.out⟩
theorem ze_call {CX : CXT} {k : Nat} {f : Addr} {fd : FuncData} {ps : List Str} {sp : Sp} {ds : List Value} {dvs : List V} {E : XK} (F : FnOk X.prog X.w X.K X.mg X.base CX k f fd ps sp) (hr : Room k X.A) (hg : Gl X x) (hm : X.mg x = some (.ref f)) (hk : PySem.W.keepIn X.K (.ref f) = true) (hb : Binds X.K fd ps ds) (hd : Vals dvs ds) (hx : Passes CX X E)
    (ha : ZA X (e :: es) t) (hdb : (x == ("__debug__" : Str)) = false := by decide) (he : starEach (e :: es) X.env = (false, eval e X.env) :: starEach es X.env := by rfl) (hpl : (backTo pos (starEach es X.env)).any (·.1) = false := by rfl) :
    ZE X (.Call (.Name x p) (e :: es) [] pos) (tCall sp dvs E t) := ⟨pe_call F hr hg hm hk hb hd hx ha.out hdb he hpl⟩
theorem ze_callB {id : String} {r : List V → Hp → VK → Prop} (hc : CallR X (.builtin id) r) (hg : Gl X x) (hm : X.mg x = none) (hv : bootBuiltins x = some (.builtin id)) (ha : ZA X (e :: es) t) (hn : x ≠ "__name__" := by decide) (hdb : (x == ("__debug__" : Str)) = false := by decide)
    (he : starEach (e :: es) X.env = (false, eval e X.env) :: starEach es X.env := by rfl) (hpl : (backTo pos (starEach es X.env)).any (·.1) = false := by rfl) : ZE X (.Call (.Name x p) (e :: es) [] pos) (tCB r t) := ⟨pe_callB hc hg hm hv ha.out hn hdb he hpl⟩
theorem ze_callTy {T : String} {r : List V → Hp → VK → Prop} (hc : CallR X (.type T) r) (hg : Gl X x) (hm : X.mg x = none) (hv : bootBuiltins x = some (.type T)) (ha : ZA X (e :: es) t) (hn : x ≠ "__name__" := by decide) (hdb : (x == ("__debug__" : Str)) = false := by decide)
    (he : starEach (e :: es) X.env = (false, eval e X.env) :: starEach es X.env := by rfl) (hpl : (backTo pos (starEach es X.env)).any (·.1) = false := by rfl) : ZE X (.Call (.Name x p) (e :: es) [] pos) (tCB r t) := ⟨pe_callTy hc hg hm hv ha.out hn hdb he hpl⟩
theorem za_nil : ZA X [] tNil := ⟨pa_nil⟩
theorem za_cons (ha : ZE X e te) (hr : ZA X es t) (hs : starEach (e :: es) X.env = (false, eval e X.env) :: starEach es X.env := by rfl) : ZA X (e :: es) (tCons te t) := ⟨pa_cons ha.out hr.out hs⟩
theorem za_i {i : Int} {j : Nat} (hr : ZA X es t) : ZA X (.Constant (.int i) j p :: es) (tCons (tC (.int i)) t) := ⟨pa_i hr.out⟩
theorem za_n (ha : ZE X (.Name x p) te) (hr : ZA X es t) : ZA X (.Name x p :: es) (tCons te t) := ⟨pa_n ha.out hr.out⟩
theorem za_b {op : Operator} (ha : ZE X (.BinOp a op b p) te) (hr : ZA X es t) : ZA X (.BinOp a op b p :: es) (tCons te t) := ⟨pa_b ha.out hr.out⟩
theorem za_s (ha : ZE X (.Subscript a b p) te) (hr : ZA X es t) : ZA X (.Subscript a b p :: es) (tCons te t) := ⟨pa_s ha.out hr.out⟩
theorem za_c {f : Expr} {l : List Expr} {k : List Keyword} (ha : ZE X (.Call f l k p) te) (hr : ZA X es t) : ZA X (.Call f l k p :: es) (tCons te t) := ⟨pa_c ha.out hr.out⟩
theorem za_t {l : List Expr} {k : Nat} (ha : ZE X (.Tuple l k p) te) (hr : ZA X es t) : ZA X (.Tuple l k p :: es) (tCons te t) := ⟨pa_t ha.out hr.out⟩
theorem za_l {l : List Expr} (ha : ZE X (.List l p) te) (hr : ZA X es t) : ZA X (.List l p :: es) (tCons te t) := ⟨pa_l ha.out hr.out⟩
theorem zg_name {i : Nat} (hN : X.N.Nodup) (hi : X.N[i]? = some x) (hx : Loc X.env.scope x) (hf : X.fn x = true ∨ X.env.scope.names.lookup x = some .local := by first | exact .inl rfl | exact .inr rfl | assumption) : ZG X (.Name x pos) (gName i) := ⟨pg_name hN hi hx hf⟩
theorem zg_sub {o i : Expr} {to ti : TE} {t : TSet} (ho : ZE X o to) (hi : ZE X i ti) (hs : PSet X t) (ha : ∀ v, assign (.Subscript o i pos) X.env v = (do
      let ov ← holding [v] (eval o X.env)
      let iv ← holding [v, ov] (eval i X.env)
      standAt pos
      holding [v, ov, iv] (setItem ov iv v)
      release [v, ov, iv] []) := by intro _; rfl) : ZG X (.Subscript o i pos) (gSub to ti t) := ⟨pg_sub ho.out hi.out hs ha⟩
theorem zgs_nil : ZGs X [] gNil := ⟨pgs_nil⟩
theorem zgs_cons {t : TG} {u : TGs} (h1 : ZG X e t) (h2 : ZGs X es u) (hs : (assignEach (e :: es) X.env).map (·.2) = assign e X.env :: (assignEach es X.env).map (·.2) := by rfl) : ZGs X (e :: es) (gCons t u) := ⟨pgs_cons h1.out h2.out hs⟩
theorem zg_tup {k : Nat} {t : TGs} {n : Nat} (hc : X.calm = true) (h : ZGs X es t) (hn : (assignEach es X.env).length = n := by rfl) (hst : (assignEach es X.env).findIdx? (·.1) = none := by rfl) : ZG X (.Tuple es k pos) (gTup X.K n t) := ⟨pg_tup hc h.out hn hst⟩
theorem zi_list (hl : ZE X e te) : ZI X tg e (iList X.K te) := ⟨pi_list hl.out⟩
theorem zi_tup (hl : ZE X e te) : ZI X tg e (iTup X.K te) := ⟨pi_tup hl.out⟩
theorem zi_range1 {ta : TA} (hg : Gl X "range") (hm : X.mg "range" = none) (ha : ZA X [a] ta) (hs : starEach [a] X.env = [(false, eval a X.env)] := by rfl) : ZI X tg (.Call (.Name "range" p) [a] [] pos) (iRng1 ta) := ⟨pi_range1 hg hm ha.out hs⟩
theorem zts_nil : ZTs X [] tAll := ⟨pts_nil⟩
theorem zts_one {t : TT} (h : ZT X c t) : ZTs X [c] t := ⟨pts_one h.out⟩
theorem ze_comp {own : List Str} {scope sc : Scope} {iter elt : Expr} {ifs : List Expr} {wi : TI} {g : TG} {tt : TT} {N0 P0 : List Str} (S0 : FnScope N0 P0 sc) (hc : X.calm = true) (S1 : CompScope own N0 sc scope) (hi : ZI X tg iter wi)
    (hg : ∀ C fp s H, (maskN own N0).Nodup → ZG (cxComp X own scope C fp s H) tg g) (ht : ∀ C fp s H, ZTs (cxComp X own scope C fp s H) ifs tt) (he : ∀ C fp s H, ZE (cxComp X own scope C fp s H) elt te)
    (hs : ∀ x, foldedSetIterable iter X.env x = pure x := by intro _; rfl) (hN0 : X.N = N0 := by rfl) (hsc : X.env.scope = sc := by rfl) : ZE X (.ListComp elt [⟨tg, iter, ifs, 0⟩] scope pos) (tCompB own.length wi g tt te) :=
  ⟨pe_comp S0 hc S1 hi.out (fun C fp s H n => (hg C fp s H n).out) (fun C fp s H => (ht C fp s H).out) (fun C fp s H => (he C fp s H).out) hs hN0 hsc⟩
theorem zs_comp {own : List Str} {scope sc : Scope} {iter elt : Expr} {ifs : List Expr} {wi : TI} {g : TG} {tt : TT} {i : Nat} {pos' spos : Pos} {N0 P0 : List Str} (S0 : FnScope N0 P0 sc) (hc : X.calm = true) (S1 : CompScope own N0 sc scope) (hi : ZI X tg iter wi)
    (hg : ∀ C fp s H, (maskN own N0).Nodup → ZG (cxComp X own scope C fp s H) tg g) (ht : ∀ C fp s H, ZTs (cxComp X own scope C fp s H) ifs tt) (he : ∀ C fp s H, ZE (cxComp X own scope C fp s H) elt te)
    (hN : X.N.Nodup) (hiN : X.N[i]? = some x) (hx : Loc X.env.scope x)
    (hsw : swapsWith (.ListComp elt [⟨tg, iter, ifs, 0⟩] scope pos) (some (.Name x pos')) spos.line X.env = pure true)
    (hs : ∀ x, foldedSetIterable iter X.env x = pure x := by intro _; rfl) (hf : X.fn x = true ∨ X.env.scope.names.lookup x = some .local := by first | exact .inl rfl | exact .inr rfl | assumption) (hN0 : X.N = N0 := by rfl) (hsc : X.env.scope = sc := by rfl) :
    ZS X (.Assign [.Name x pos'] (.ListComp elt [⟨tg, iter, ifs, 0⟩] scope pos) spos) (tAsg (tCompB own.length wi g tt te) (gName i)) :=
  ⟨ps_comp S0 hc S1 hi.out (fun C fp s H n => (hg C fp s H n).out) (fun C fp s H => (ht C fp s H).out) (fun C fp s H => (he C fp s H).out) hN hiN hx hsw hs hf hN0 hsc⟩
theorem zi_zip {ta : TA} {pt : Pos} {elts : List Expr} {x1} (hg : Gl X "zip") (hm : X.mg "zip" = none) (ha : ZA X [a, b] ta) (hs : starEach [a, b] X.env = [(false, eval a X.env), (false, eval b X.env)] := by rfl) (hs2 : starEach [b] X.env = [(false, eval b X.env)] := by rfl) :
    ZI X (.Tuple elts x1 pt) (.Call (.Name "zip" p) [a, b] [] pos) (iZip X.K ta) := ⟨pi_zip hg hm ha.out hs hs2⟩
theorem zg_pair {own : List Str} {scope : Scope} {C : Addr} {fp : List Addr} {s : Shared} {H : Hp} {x y : Str} {px py : Pos} {k : Nat} (hc : X.calm = true) (nd : (cxComp X own scope C fp s H).N.Nodup) (h0 : (cxComp X own scope C fp s H).N[0]? = some x) (h1 : (cxComp X own scope C fp s H).N[1]? = some y)
    (l0 : (cxComp X own scope C fp s H).env.scope.names.lookup x = some .local) (l1 : (cxComp X own scope C fp s H).env.scope.names.lookup y = some .local) : ZG (cxComp X own scope C fp s H) (.Tuple [.Name x px, .Name y py] k pos) (gPair X.K) := ⟨pg_pair hc nd h0 h1 l0 l1⟩
end
section
variable {P : Program} {w : World} {K : PySem.W.Frag} {mg : Str → Option Value} {base : Heap}
theorem Fun.okZ {x qual : Str} {st : Stmt} {f : Addr} {fd : FuncData} {N ps : List Str} {k : Nat} {sp : Sp} (F : Fun K x qual st f fd) (S : FnScope N ps (defScope st)) (len : ∀ vs H Q E, sp vs H Q E → vs.length = ps.length)
    (hbody : ∀ (cdv : Value) (A : Around) (outer : List Env) (s : Shared) (H : Hp) (vs : List V) (Q : VK) (E : XK), Room k (A.deeper (envOfC qual (defScope st) s.heap.objs.size f cdv)) → sp vs H Q E →
      ∃ t, ZSs (cxOf CX0 P w K mg base N qual (defScope st) f cdv A outer s H E).nox (defBody st) t ∧ t { nx := fun _ H' => Q .non H', rt := Q } (start N vs) H) : FnOk P w K mg base CX0 (k + 1) f fd ps sp :=
  F.ok S len fun cdv A outer s H vs Q E hr h => let ⟨t, b, q⟩ := hbody cdv A outer s H vs Q E hr h; ⟨t, b.out, q⟩
end
end L2
end

section
set_option Elab.async false
set_option linter.all false
set_option maxRecDepth 100000
set_option maxHeartbeats 4000000
namespace L2
open PySem PySem.Spec PyProof.Rows
open PySem.W (Dat)
section
variable {K : PySem.W.Frag} {H : Hp} {σ : St} {te : TE} {tt : TT} {Q : VK} {J : It} {xs : List V}
theorem get3 {α : Type} {x1 x2 x3 x : α} {i : Nat} (h : [x1, x2, x3][i]? = some x) : (i = 0 ∧ x1 = x) ∨ (i = 1 ∧ x2 = x) ∨ (i = 2 ∧ x3 = x) := by
  match i, h with
  | 0, h => exact .inl ⟨rfl, by simpa using h⟩
  | 1, h => exact .inr (.inl ⟨rfl, by simpa using h⟩)
  | 2, h => exact .inr (.inr ⟨rfl, by simpa using h⟩)
end
section
variable {X : Cx} {e o : Expr} {to te : TE} {apos cpos : Pos}
theorem ze_append (ho : ZE X o to) (ha : ZE X e te) (hbase : attributeBase o "append" X.env (eval o X.env) = eval o X.env := by rfl)
    (hfew : ((backTo cpos (starEach [e] X.env)).all (fun x => !x.1) && (backToKw cpos (keywordEach [] X.env)).all (fun x => x.1.isSome)
      && decide ([e].length + ([] : List Keyword).length + (if ([] : List Keyword).isEmpty then 0 else 1) < 30)) = true := by rfl)
    (hline : (apos.endLine == cpos.line) = true := by rfl) (hs : starEach [e] X.env = (false, eval e X.env) :: starEach [] X.env := by rfl) :
    ZE X (.Call (.Attribute o "append" apos) [e] [] cpos) (tBM X.K "list" rAppend to (tCons te tNil)) :=
  ⟨pe_bm PySem.F.plainAttrs_list slot_list_append (by rfl) mt_append ho.out (pa_cons ha.out pa_nil hs) hbase hfew hline hs⟩
end
section
variable {X : Cx} {own : List Str} {scope : Scope} {C : Addr} {fp : List Addr} {s : Shared} {H : Hp}
theorem ix_tupC : IxR (cxComp X own scope C fp s H) (rIxT X.K) := ix_tup
theorem ix_listC : IxR (cxComp X own scope C fp s H) (rIxL X.K) := ix_list
end
section
variable {X : Cx}
end
end L2
end

section
set_option Elab.async false
set_option linter.all false
set_option maxRecDepth 100000
set_option maxHeartbeats 4000000
namespace L2
open PySem PySem.Spec PyProof.Rows
section
variable {X : Cx} {tg : Expr}
end
end L2
end

section
set_option Elab.async false
set_option linter.all false
set_option maxRecDepth 100000
set_option maxHeartbeats 4000000
namespace L2
open PySem PySem.Spec PyProof.Rows
noncomputable def relS (scope sc : Scope) : Scope := { scope with names := scope.names.map fun (n, k) => if (k == NameKind.free && sc.kind == .function && sc.names.lookup n == some .cell) then (n, NameKind.cell) else (n, k) }
section
variable {X : Cx} {own own2 : List Str} {scope scope2 sc : Scope} {elt tg iter : Expr} {ifs : List Expr} {pos : Pos} {wi : TI} {g : TG} {tt : TT} {te : TE} {N : List Str}
theorem pe_compX (hc : X.calm = true) (S1 : CompScope own N sc scope) (hi : PI X tg iter wi)
    (hg : ∀ C fp s H, (maskN own N).Nodup → PG (cxComp X own scope C fp s H) tg g) (ht : ∀ C fp s H, PTs (cxComp X own scope C fp s H) ifs tt) (he : ∀ C fp s H, PE (cxComp X own scope C fp s H) elt te)
    (hs : ∀ x, foldedSetIterable iter X.env x = pure x) (hN0 : X.N = N) (hsc : X.env.scope = sc) : PE X (.ListComp elt [⟨tg, iter, ifs, 0⟩] scope pos) (tCompB own.length wi g tt te) := by
  intro pins s σ H Q I h
  subst hN0 hsc
  have S := S1
  replace hg := fun C fp s H => hg C fp s H S1.nd
  rw [eval_ListComp]
  refine wpAny_comprehension_free (use := none) rfl hs (comp_clos S I) S.kind S.loc (thn (hi pins s σ H _ I h) fun xv s₁ h₁ => thn h₁ fun itv s₂ h₂ => ?_)
  obtain ⟨it, fp, tn, J, H2, rfl, I2, T, st2, f2, q2⟩ := h₂
  refine comp_block (Q := Q) hc S hg ht he I2 T st2 f2 q2 ?_
  intro D C s' H' m I' hm hC hCle q
  refine ⟨m, hm, fun h' hs' => ⟨.ref D, H', ?_, rfl, q⟩⟩
  exact I'.letgo hC I2.sz hCle I2.lt (fun x c e => let ⟨v, z⟩ := I2.cell x c e; z.lt) (fun p hp => Heap.lt_size (I2.pin p hp).1) hs'
variable {C : Addr} {fp : List Addr} {s : Shared} {H : Hp} {e : Expr}
end
end L2
end

section
set_option linter.all false
namespace Num
noncomputable def gcdN (ns : List Int) : Nat := ns.foldl (fun d n => Nat.gcd d n.natAbs) 0
theorem gcdN_snoc (ns : List Int) (n : Int) : gcdN (ns ++ [n]) = Nat.gcd (gcdN ns) n.natAbs := by
  unfold gcdN; rw [List.foldl_append]; rfl
theorem foldl_gcd (ns : List Int) : ∀ d : Nat, ns.foldl (fun d n => Nat.gcd d n.natAbs) d = Nat.gcd d (gcdN ns) := by
  induction ns with
  | nil => intro d; simp [gcdN]
  | cons n ns ih =>
    intro d
    unfold gcdN
    rw [List.foldl_cons, List.foldl_cons, ih, ih, Nat.gcd_assoc, Nat.gcd_zero_left]
theorem gcdN_cons (n : Int) (ns : List Int) : gcdN (n :: ns) = Nat.gcd n.natAbs (gcdN ns) := by
  show List.foldl _ _ _ = _
  rw [List.foldl_cons, foldl_gcd, Nat.gcd_zero_left]
theorem gcdN_dvd : ∀ {ns : List Int} {n : Int}, n ∈ ns → (gcdN ns : Int) ∣ n
  | m :: ns, n, h => by
    rw [gcdN_cons]
    rcases List.mem_cons.mp h with rfl | h
    · exact Int.ofNat_dvd_left.mpr (Nat.gcd_dvd_left _ _)
    · exact Int.dvd_trans (Int.natCast_dvd_natCast.mpr (Nat.gcd_dvd_right _ _)) (gcdN_dvd h)
theorem gcdN_zero : ∀ {ns : List Int}, gcdN ns = 0 → ∀ n ∈ ns, n = 0
  | m :: ns, h, n, hn => by
    rw [gcdN_cons] at h
    obtain ⟨h1, h2⟩ := Nat.gcd_eq_zero_iff.mp h
    rcases List.mem_cons.mp hn with rfl | hn
    · omega
    · exact gcdN_zero h2 n hn
theorem gcdN_pos {ns : List Int} (h : ∃ n ∈ ns, n ≠ 0) : 0 < gcdN ns := by
  obtain ⟨n, hn, h0⟩ := h
  rcases Nat.eq_zero_or_pos (gcdN ns) with z | z
  · exact absurd (gcdN_zero z n hn) h0
  · exact z
theorem gcdN_le {ns : List Int} {n : Int} (h : n ∈ ns) (h0 : n ≠ 0) : gcdN ns ≤ n.natAbs := Nat.le_of_dvd (by omega) (Int.ofNat_dvd_left.mp (gcdN_dvd h))
noncomputable def fst0 : List Int → Int
  | [] => 0
  | x :: r => if x = 0 then fst0 r else x
theorem fst0_mul (c : Int) : ∀ ns : List Int, fst0 (ns.map (c * ·)) = c * fst0 ns
  | [] => by simp [fst0]
  | x :: r => by
    rw [List.map_cons, fst0, fst0, fst0_mul c r]
    by_cases hc : c = 0
    · subst hc; simp
    · by_cases hx : x = 0
      · simp [hx]
      · rw [if_neg (Int.mul_ne_zero hc hx), if_neg hx]
noncomputable def unit (ns : List Int) : Int := if fst0 ns < 0 then -(gcdN ns : Int) else gcdN ns
noncomputable def pl (ns : List Int) : List Int := ns.map fun n => n / unit ns
theorem unit_dvd {ns : List Int} {n : Int} (h : n ∈ ns) : unit ns ∣ n := by
  unfold unit; split
  · exact Int.neg_dvd.mpr (gcdN_dvd h)
  · exact gcdN_dvd h
theorem unit_natAbs (ns : List Int) : (unit ns).natAbs = gcdN ns := by
  unfold unit; split <;> omega
theorem nz_pl {ns : List Int} (h : ∃ n ∈ ns, n ≠ 0) : ∃ n ∈ pl ns, n ≠ 0 := by
  obtain ⟨n, hn, h0⟩ := h
  refine ⟨n / unit ns, List.mem_map.mpr ⟨n, hn, rfl⟩, fun z => h0 ?_⟩
  have := Int.mul_ediv_cancel' (unit_dvd hn)
  rw [z] at this; omega
theorem pl_length (ns : List Int) : (pl ns).length = ns.length := List.length_map _
theorem pl_le {ns : List Int} (h : ∃ n ∈ ns, n ≠ 0) {m : Int} (hm : m ∈ pl ns) : ∃ n ∈ ns, m.natAbs ≤ n.natAbs := by
  obtain ⟨n, hn, rfl⟩ := List.mem_map.mp hm
  refine ⟨n, hn, ?_⟩
  have e := Int.mul_ediv_cancel' (unit_dvd hn)
  have e2 := congrArg Int.natAbs e
  rw [Int.natAbs_mul, unit_natAbs] at e2
  have p := gcdN_pos h
  calc (n / unit ns).natAbs = 1 * (n / unit ns).natAbs := by omega
    _ ≤ gcdN ns * (n / unit ns).natAbs := Nat.mul_le_mul_right _ p
    _ = n.natAbs := e2
end Num
end

section
set_option maxHeartbeats 4000000
namespace Num
noncomputable def qm : List Int → List Int → List Int
  | [a, b, c, d], [e, f, g, h] => [a * e - b * f - c * g - d * h, a * f + b * e + c * h - d * g, a * g - b * h + c * e + d * f, a * h + b * g - c * f + d * e]
  | _, _ => []
noncomputable def cj : List Int → List Int
  | [a, b, c, d] => [a, -b, -c, -d]
  | _ => []
noncomputable def nrm : List Int → Int
  | [a, b, c, d] => a * a + b * b + c * c + d * d
  | _ => 0
theorem four_of {ns : List Int} (h : ns.length = 4) : ∃ a b c d, ns = [a, b, c, d] := by
  match ns, h with
  | [a, b, c, d], _ => exact ⟨a, b, c, d, rfl⟩
theorem sq_nn (a : Int) : 0 ≤ a * a := by
  rcases Int.le_total 0 a with h | h
  · exact Int.mul_nonneg h h
  · exact Int.mul_nonneg_of_nonpos_of_nonpos h h
theorem sq_pos {a : Int} (h : a ≠ 0) : 0 < a * a := by
  have := sq_nn a
  have : a * a ≠ 0 := Int.mul_ne_zero h h
  omega
theorem nrm_pos {ns : List Int} (h : ns.length = 4) (hz : ∃ n ∈ ns, n ≠ 0) : 0 < nrm ns := by
  obtain ⟨a, b, c, d, rfl⟩ := four_of h
  obtain ⟨n, hn, h0⟩ := hz
  have ha := sq_nn a
  have hb := sq_nn b
  have hc := sq_nn c
  have hd := sq_nn d
  have hp := sq_pos h0
  show 0 < a * a + b * b + c * c + d * d
  simp only [List.mem_cons, List.mem_nil_iff, or_false] at hn
  rcases hn with rfl | rfl | rfl | rfl <;> omega
noncomputable def Bd (b : Nat) (ns : List Int) : Prop := ∀ n ∈ ns, n.natAbs ≤ b
theorem bd_pl {ns : List Int} {x : Nat} (hz : ∃ n ∈ ns, n ≠ 0) (hx : Bd x ns) : Bd x (pl ns) := fun m hm => let ⟨n, hn, hle⟩ := pl_le hz hm; Nat.le_trans hle (hx n hn)
end Num
end

section
set_option Elab.async false
set_option linter.all false
set_option maxRecDepth 100000
set_option maxHeartbeats 4000000
set_option exponentiation.threshold 200000
namespace K0
open PySem L2 Num
section
variable {P : Program} {w : World} {K : PySem.W.Frag} {mg : Str → Option Value} {base : Heap} {f g g2 g3 g4 g5 : Addr} {fd gd gd2 gd3 gd4 gd5 : FuncData}
noncomputable def spCD (K : PySem.W.Frag) : Sp := fun vs H Q _ => ∃ (a : Addr) (ns : List Int), vs = [.ref a] ∧ SqT K H a (ns.map V.int) ∧ Q (.int (gcdN ns)) H
theorem gcd_step {a b : Int} (ha : 0 ≤ a) (hb : 0 < b) : Nat.gcd b.toNat (a % b).toNat = Nat.gcd a.toNat b.toNat := by
  have h1 : (a % b).toNat = a.toNat % b.toNat := by
    have e := Int.toNat_emod ha (Int.le_of_lt hb)
    exact e
  rw [h1, Nat.gcd_comm, ← Nat.gcd_rec, Nat.gcd_comm]
noncomputable def Sm (ns : List Int) : Prop := ∀ n ∈ ns, n.natAbs < 2 ^ 9000
noncomputable def spT (K : PySem.W.Frag) (pre : List Int → Prop) (fn : List Int → List Int) : Sp := fun vs H Q _ => ∃ (a : Addr) (ns : List Int), vs = [.ref a] ∧ SqT K H a (ns.map V.int) ∧ ns.length ≤ 1000 ∧ pre ns ∧
  ∀ (r : Addr) (H' : Hp), Same H H' → H' r = some (.tup ((fn ns).map V.int)) → Q (.ref r) H'
noncomputable def red (ns : List Int) : List Int := ns.map fun n => n / (gcdN ns : Int)
theorem gcd_small {ns : List Int} (h : ∃ n ∈ ns, n ≠ 0) (hs : Sm ns) : ((gcdN ns : Nat) : Int).natAbs.log2 < 9000 := by
  obtain ⟨n, hn, h0⟩ := h
  have h1 := gcdN_le hn h0
  have h2 := hs n hn
  have h3 : ((gcdN ns : Nat) : Int).natAbs < 2 ^ 9000 := by
    rw [Int.natAbs_natCast]
    exact Nat.lt_of_le_of_lt h1 h2
  exact (Nat.log2_lt (by have := gcdN_pos ⟨n, hn, h0⟩; omega)).mpr h3
noncomputable def sop (ns ms : List Int) : Int := (List.zipWith (· * ·) ns ms).sum
theorem mulOk_of {i j : Int} (hi : i.natAbs < 2 ^ 100000) (hj : j.natAbs < 2 ^ 100000) : IntMulOk i j := by
  have b : ∀ k : Int, k.natAbs < 2 ^ 100000 → Builtin.Int.intBits k ≤ 2 ^ 20 := fun k hk => by
    unfold Builtin.Int.intBits
    split
    · exact Nat.zero_le _
    · rename_i h0
      have hne : k.natAbs ≠ 0 := by
        intro z
        apply h0
        have : k = 0 := by omega
        simp [this]
      have := (Nat.log2_lt hne).mpr hk
      omega
  exact IntMulOk.of_bits (b i hi) (b j hj)
theorem pow_lift {n : Nat} (h : n < 2 ^ 9000) : n < 2 ^ 100000 := Nat.lt_of_lt_of_le h (Nat.pow_le_pow_right (by decide) (by decide))
noncomputable def spSop (K : PySem.W.Frag) : Sp := fun vs H Q _ => ∃ (a b : Addr) (ns ms : List Int), vs = [.ref a, .ref b] ∧ SqT K H a (ns.map V.int) ∧ SqT K H b (ms.map V.int) ∧ ns.length ≤ 1000 ∧ ms.length = ns.length ∧ Sm ns ∧ Sm ms ∧
  ∀ (H' : Hp), Same H H' → Q (.int (sop ns ms)) H'
noncomputable def spSize (K : PySem.W.Frag) : Sp := fun vs H Q _ => ∃ (a : Addr) (ns : List Int), vs = [.ref a] ∧ SqT K H a (ns.map V.int) ∧ ns.length ≤ 1000 ∧ Sm ns ∧ ∀ (H' : Hp), Same H H' → Q (.int (sop ns ns)) H'
theorem lex_fst0 : ∀ {l : List Int} {n : Nat}, l.length = n → HT.lexLt l (List.replicate n 0) = decide (fst0 l < 0)
  | [], n, h => by subst h; rfl
  | x :: r, n, h => by
    subst h
    rw [List.length_cons, List.replicate_succ, HT.lexLt_cons, fst0, lex_fst0 rfl]
    by_cases hx : x = 0
    · rw [if_pos hx, if_pos hx]
    · rw [if_neg hx, if_neg hx]
theorem red_mul (ns : List Int) : (red ns).map ((gcdN ns : Int) * ·) = ns := by
  unfold red
  rw [List.map_map]
  conv => rhs; rw [← List.map_id ns]
  refine List.map_congr_left fun n hn => ?_
  exact Int.mul_ediv_cancel' (gcdN_dvd hn)
theorem plain_eq {ns : List Int} (h : ∃ n ∈ ns, n ≠ 0) : (if fst0 (red ns) < 0 then (red ns).map (fun n => -n) else red ns) = pl ns := by
  have e := fst0_mul (gcdN ns) (red ns)
  rw [red_mul] at e
  have p := gcdN_pos h
  by_cases hn : fst0 (red ns) < 0
  · rw [if_pos hn]
    have u : unit ns = -(gcdN ns : Int) := if_pos (by rw [e]; exact Int.mul_neg_of_pos_of_neg (by omega) hn)
    unfold pl red
    rw [u, List.map_map]
    refine List.map_congr_left fun n _ => ?_
    show -(n / (gcdN ns : Int)) = n / -(gcdN ns : Int)
    rw [Int.ediv_neg]
  · rw [if_neg hn]
    have u : unit ns = (gcdN ns : Int) := if_neg (by rw [e]; have := Int.mul_nonneg (show (0 : Int) ≤ gcdN ns by omega) (show 0 ≤ fst0 (red ns) by omega); omega)
    unfold pl red
    rw [u]
noncomputable def PlainPre (ns : List Int) : Prop := ns.length = 4 ∧ (∃ n ∈ ns, n ≠ 0) ∧ Sm ns
noncomputable def Pu (H : Hp) (p : Addr) : Prop := ∃ a b : Int, H p = some (.lst [.int a, .int b])
theorem Pu.same {H H' : Hp} {p : Addr} (h : Pu H p) (s : Same H H') : Pu H' p := by
  obtain ⟨a, b, e⟩ := h; exact ⟨a, b, s _ _ e⟩
noncomputable def spLaw (K : PySem.W.Frag) : Sp := fun vs H Q _ => ∃ (a : Addr) (ns : List Int), vs = [.ref a] ∧ SqL K H a (ns.map V.int) ∧ ns.length ≤ 63 ∧ (∀ v ∈ ns, Builtin.Int.intBits v ≤ 2 ^ 20) ∧ ∀ (H' : Hp), Q (.bl true) H'
theorem sm_bd {ns : List Int} {b : Nat} (h : Bd b ns) (hb : b < 2 ^ 9000) : Sm ns := fun n hn => Nat.lt_of_le_of_lt (h n hn) hb
theorem bd_mono {ns : List Int} {a b : Nat} (h : Bd a ns) (hab : a ≤ b) : Bd b ns := fun n hn => Nat.le_trans (h n hn) hab
theorem at40 {a b c d : Int} : atI ([a, b, c, d].map V.int) 0 = some (.int a) := rfl
theorem at41 {a b c d : Int} : atI ([a, b, c, d].map V.int) 1 = some (.int b) := rfl
theorem at42 {a b c d : Int} : atI ([a, b, c, d].map V.int) 2 = some (.int c) := rfl
theorem at43 {a b c d : Int} : atI ([a, b, c, d].map V.int) 3 = some (.int d) := rfl
end
end K0
end

section
set_option Elab.async false
set_option linter.all false
set_option maxRecDepth 100000
set_option maxHeartbeats 4000000
set_option exponentiation.threshold 200000
namespace K0
open PySem L2 Num
noncomputable def fr (t b : Int) : List Int := red [t, b]
structure Pt (H : Hp) (p : Addr) (f1 f2 f3 : List Int) : Prop where
  ex : ∃ p1 p2 p3, H p = some (.tup [.ref p1, .ref p2, .ref p3]) ∧ H p1 = some (.tup (f1.map V.int)) ∧ H p2 = some (.tup (f2.map V.int)) ∧ H p3 = some (.tup (f3.map V.int))
noncomputable def Bt (n : Int) (k : Nat) : Prop := n.natAbs ≤ 2 ^ k
theorem Bt.mul {a b : Int} {x y : Nat} (ha : Bt a x) (hb : Bt b y) : Bt (a * b) (x + y) := by
  unfold Bt at *
  rw [Int.natAbs_mul, Nat.pow_add]; exact Nat.mul_le_mul ha hb
theorem Bt.add {a b : Int} {x : Nat} (ha : Bt a x) (hb : Bt b x) : Bt (a + b) (x + 1) := by
  unfold Bt at *
  rw [Nat.pow_succ, Nat.mul_two]
  exact Nat.le_trans (Int.natAbs_add_le a b) (Nat.add_le_add ha hb)
theorem Bt.sub {a b : Int} {x : Nat} (ha : Bt a x) (hb : Bt b x) : Bt (a - b) (x + 1) := by
  unfold Bt at *
  rw [Nat.pow_succ, Nat.mul_two]
  exact Nat.le_trans (Int.natAbs_sub_le a b) (Nat.add_le_add ha hb)
theorem Bt.up {a : Int} {x y : Nat} (h : Bt a x) (hxy : x ≤ y) : Bt a y := Nat.le_trans h (Nat.pow_le_pow_right (by decide) hxy)
theorem Bt.lt {a : Int} {x : Nat} (h : Bt a x) (hx : x < 9000) : a.natAbs < 2 ^ 9000 := Nat.lt_of_le_of_lt h (Nat.pow_lt_pow_right (by decide) hx)
theorem Bt.mulOk {a b : Int} {x y : Nat} (ha : Bt a x) (hb : Bt b y) (hx : x < 9000 := by decide) (hy : y < 9000 := by decide) : IntMulOk a b := mulOk_of (pow_lift (ha.lt hx)) (pow_lift (hb.lt hy))
theorem Bt.log {a : Int} {x : Nat} (h : Bt a x) (h0 : a ≠ 0) (hx : x < 9000 := by decide) : a.natAbs.log2 < 9000 := (Nat.log2_lt (by omega)).mpr (h.lt hx)
noncomputable def rw1 (a b c d : Int) : List Int := [a * a + b * b - c * c - d * d, 2 * (b * c - a * d), 2 * (b * d + a * c)]
noncomputable def rw2 (a b c d : Int) : List Int := [2 * (b * c + a * d), a * a - b * b + c * c - d * d, 2 * (c * d - a * b)]
noncomputable def rw3 (a b c d : Int) : List Int := [2 * (b * d - a * c), 2 * (c * d + a * b), a * a - b * b - c * c + d * d]
noncomputable def spWT (K : PySem.W.Frag) : Sp := fun vs H Q _ => ∃ (x : Addr) (a b c d : Int), vs = [.ref x] ∧ SqT K H x ([a, b, c, d].map V.int) ∧ Bd (2 ^ 1000) [a, b, c, d] ∧
  ∀ (r : Addr) (H' : Hp), Same H H' → Pt H' r (rw1 a b c d) (rw2 a b c d) (rw3 a b c d) → Q (.ref r) H'
theorem two1 : Bt 2 1 := by unfold Bt; decide
noncomputable def ptD (f1 f2 f3 : List Int) : PySem.W.Dat := .tuple [.tuple (f1.map .int), .tuple (f2.map .int), .tuple (f3.map .int)]
end K0
end

section
set_option Elab.async false
set_option linter.all false
set_option maxRecDepth 100000
set_option maxHeartbeats 4000000
set_option exponentiation.threshold 200000
namespace K0
open PySem L2 Num
noncomputable def qv (t b : Int) : Rat := (t : Rat) / (b : Rat)
noncomputable def R1 (a b c d x y z : Rat) : Rat := (a * a + b * b - c * c - d * d) * x + 2 * (b * c - a * d) * y + 2 * (b * d + a * c) * z
noncomputable def R2 (a b c d x y z : Rat) : Rat := 2 * (b * c + a * d) * x + (a * a - b * b + c * c - d * d) * y + 2 * (c * d - a * b) * z
noncomputable def N4 (a b c d : Rat) : Rat := a * a + b * b + c * c + d * d
structure Lo (k : Nat) (t b : Int) (x : Rat) : Prop where
  pos : 0 < b
  low : Nat.gcd t.natAbs b.natAbs = 1
  bt : Bt t k
  bb : Bt b k
  val : qv t b = x
theorem rows_btG {m : Nat} {a b c d : Int} (h : Bd (2 ^ m) [a, b, c, d]) : (∀ n ∈ rw1 a b c d, Bt n (2 * m + 3)) ∧ (∀ n ∈ rw2 a b c d, Bt n (2 * m + 3)) ∧ (∀ n ∈ rw3 a b c d, Bt n (2 * m + 3)) := by
  have ha : Bt a m := h a (by simp)
  have hb : Bt b m := h b (by simp)
  have hc : Bt c m := h c (by simp)
  have hd : Bt d m := h d (by simp)
  have q : ∀ {x y : Int}, Bt x m → Bt y m → Bt (x * y) (2 * m) := fun hx hy => (hx.mul hy).up (by omega)
  have s1 : ∀ {w x y z : Int}, Bt w (2 * m) → Bt x (2 * m) → Bt y (2 * m) → Bt z (2 * m) → Bt (w + x - y - z) (2 * m + 3) := fun hw hx hy hz => ((hw.add hx).sub (hy.up (by omega))).sub (hz.up (by omega))
  have s2 : ∀ {w x y z : Int}, Bt w (2 * m) → Bt x (2 * m) → Bt y (2 * m) → Bt z (2 * m) → Bt (w - x + y - z) (2 * m + 3) := fun hw hx hy hz => ((hw.sub hx).add (hy.up (by omega))).sub (hz.up (by omega))
  have s3 : ∀ {w x y z : Int}, Bt w (2 * m) → Bt x (2 * m) → Bt y (2 * m) → Bt z (2 * m) → Bt (w - x - y + z) (2 * m + 3) := fun hw hx hy hz => ((hw.sub hx).sub (hy.up (by omega))).add (hz.up (by omega))
  have d1 : ∀ {x y : Int}, Bt x (2 * m) → Bt y (2 * m) → Bt (2 * (x - y)) (2 * m + 3) := fun hx hy => (two1.mul (hx.sub hy)).up (by omega)
  have d2 : ∀ {x y : Int}, Bt x (2 * m) → Bt y (2 * m) → Bt (2 * (x + y)) (2 * m + 3) := fun hx hy => (two1.mul (hx.add hy)).up (by omega)
  refine ⟨fun n hn => ?_, fun n hn => ?_, fun n hn => ?_⟩
  · simp only [rw1, List.mem_cons, List.mem_nil_iff, or_false] at hn
    rcases hn with rfl | rfl | rfl
    · exact s1 (q ha ha) (q hb hb) (q hc hc) (q hd hd)
    · exact d1 (q hb hc) (q ha hd)
    · exact d2 (q hb hd) (q ha hc)
  · simp only [rw2, List.mem_cons, List.mem_nil_iff, or_false] at hn
    rcases hn with rfl | rfl | rfl
    · exact d2 (q hb hc) (q ha hd)
    · exact s2 (q ha ha) (q hb hb) (q hc hc) (q hd hd)
    · exact d1 (q hc hd) (q ha hb)
  · simp only [rw3, List.mem_cons, List.mem_nil_iff, or_false] at hn
    rcases hn with rfl | rfl | rfl
    · exact d1 (q hb hd) (q ha hc)
    · exact d2 (q hc hd) (q ha hb)
    · exact s3 (q ha ha) (q hb hb) (q hc hc) (q hd hd)
theorem nrm_btG {m : Nat} {a b c d : Int} (h : Bd (2 ^ m) [a, b, c, d]) : Bt (nrm [a, b, c, d]) (2 * m + 3) := by
  have ha : Bt a m := h a (by simp)
  have hb : Bt b m := h b (by simp)
  have hc : Bt c m := h c (by simp)
  have hd : Bt d m := h d (by simp)
  have q : ∀ {x y : Int}, Bt x m → Bt y m → Bt (x * y) (2 * m) := fun hx hy => (hx.mul hy).up (by omega)
  exact (((q ha ha).add (q hb hb)).add ((q hc hc).up (by omega))).add ((q hd hd).up (by omega))
end K0
end

section
set_option Elab.async false
set_option linter.all false
set_option maxRecDepth 100000
set_option maxHeartbeats 4000000
set_option exponentiation.threshold 200000
namespace K0
open PySem L2 Num
structure PC (H : Hp) (r : Addr) (c : Nat) (x y z : Rat) : Prop where
  ex : ∃ t1 b1 t2 b2 t3 b3, Pt H r [t1, b1] [t2, b2] [t3, b3] ∧ Lo c t1 b1 x ∧ Lo c t2 b2 y ∧ Lo c t3 b3 z ∧ ∃ C T1 T2 T3 : Int, 0 < C ∧ Bt C c ∧ Bt T1 c ∧ Bt T2 c ∧ Bt T3 c ∧ qv T1 C = x ∧ qv T2 C = y ∧ qv T3 C = z
noncomputable def bk (n : List Int) : List Int := pl (cj n)
end K0
end

section
set_option Elab.async false
set_option linter.all false
set_option maxRecDepth 100000
set_option maxHeartbeats 4000000
set_option exponentiation.threshold 200000
namespace K0
open PySem L2 Num
theorem okL {i j : Int} (h1 : -(2 ^ 64) < i) (h2 : i < 2 ^ 64) : IntMulOk i j := CMul.ok (.inl ⟨h1, h2⟩)
theorem okR {i j : Int} (h1 : -(2 ^ 64) < j) (h2 : j < 2 ^ 64) : IntMulOk i j := CMul.ok (.inr ⟨h1, h2⟩)
end K0
end

section
set_option Elab.async false
set_option linter.all false
set_option maxRecDepth 100000
set_option maxHeartbeats 4000000
namespace L2
open PySem PySem.Spec PyProof.Rows
end L2
namespace K0
open PySem L2 Num
open PySem.W (Dat)
noncomputable def rs (ns : List Int) : List Int := match ns with | [a, _, _, _] => fr (a * a) (nrm ns) | _ => []
noncomputable def cr (a b c d e f : Int) : List Int := [b * f - c * e, c * d - a * f, a * e - b * d]
noncomputable def ps (k l : Int) : List Int := [k / unit [l, k], l / unit [l, k]]
end K0
end

section
set_option Elab.async false
set_option linter.all false
set_option maxRecDepth 100000
set_option maxHeartbeats 4000000
namespace L2
open PySem PySem.Spec PyProof.Rows
end L2
end

section
set_option Elab.async false
set_option linter.all false
set_option maxRecDepth 100000
set_option maxHeartbeats 4000000
namespace L2
open PySem PySem.Spec PyProof.Rows
section
variable {prog : Program} {w : World} {A : Around} {E : Value → Shared → Prop} {s : Shared}
end
section
variable {X : Cx}
end
end L2
end

section
set_option Elab.async false
set_option linter.all false
set_option maxRecDepth 100000
set_option maxHeartbeats 4000000
namespace D
open PySem L2 K0
open PySem.W (Dat)
inductive Sl where
  | un | dat (d : Dat) | pu | own (ds : List Dat) | vw (ds : List Dat)
noncomputable def SqN (N : Addr → Prop) (K : PySem.W.Frag) (H : Hp) (a : Addr) (xs : List V) : Prop := (N a ∧ Rd H a (.lst xs)) ∨ SqL K (fun _ => none) a xs
theorem SqN.sq {N : Addr → Prop} {K : PySem.W.Frag} {H : Hp} {a : Addr} {xs : List V} (h : SqN N K H a xs) : SqL K H a xs := by
  rcases h with ⟨_, h⟩ | (h | ⟨o, h⟩) | h
  · exact .inl h
  · cases h
  · cases h
  · exact .inr h
mutual
inductive Dz (N : Addr → Prop) (K : PySem.W.Frag) (H : Hp) : V → Dat → Prop
  | none : Dz N K H .non .none
  | bool (b : Bool) : Dz N K H (.bl b) (.bool b)
  | int (i : Int) : Dz N K H (.int i) (.int i)
  | str (x : Str) : Dz N K H (.str x) (.str x)
  | tup {a : Addr} {xs : List V} {ds : List Dat} : SqT K H a xs → Dzs N K H xs ds → Dz N K H (.ref a) (.tuple ds)
  | lst {a : Addr} {xs : List V} {ds : List Dat} : SqN N K H a xs → Dzs N K H xs ds → Dz N K H (.ref a) (.list ds)
inductive Dzs (N : Addr → Prop) (K : PySem.W.Frag) (H : Hp) : List V → List Dat → Prop
  | nil : Dzs N K H [] []
  | cons {x : V} {d : Dat} {xs : List V} {ds : List Dat} : Dz N K H x d → Dzs N K H xs ds → Dzs N K H (x :: xs) (d :: ds)
end
structure Ev (W : Addr → Prop) (H H' : Hp) : Prop where
  keep : ∀ b o, ¬ W b → H b = some o → H' b = some o
  tm : Tm H H'
theorem Ev.refl {W : Addr → Prop} {H : Hp} : Ev W H H := ⟨fun _ _ _ h => h, Tm.refl _⟩
theorem Ev.trans {W : Addr → Prop} {H H1 H2 : Hp} (a : Ev W H H1) (b : Ev W H1 H2) : Ev W H H2 := ⟨fun c o n h => b.keep c o n (a.keep c o n h), a.tm.trans b.tm⟩
theorem Ev.of {W : Addr → Prop} {H H' : Hp} (s : Same H H') : Ev W H H' := ⟨fun c o _ h => s c o h, s.tm⟩
theorem Ev.mono {W W' : Addr → Prop} {H H' : Hp} (a : Ev W H H') (m : ∀ b, W b → W' b) : Ev W' H H' := ⟨fun c o n h => a.keep c o (fun z => n (m c z)) h, a.tm⟩
section
variable {N N' : Addr → Prop} {K : PySem.W.Frag} {H H' : Hp}
mutual
theorem Dz.ev {W : Addr → Prop} (e : Ev W H H') (nw : ∀ a, N a → ¬ W a) : ∀ {v : V} {d : Dat}, Dz N K H v d → Dz N K H' v d
  | _, _, .none => .none
  | _, _, .bool b => .bool b
  | _, _, .int i => .int i
  | _, _, .str x => .str x
  | _, _, .tup h r => .tup (e.tm _ _ _ h) (Dzs.ev e nw r)
  | _, _, .lst h r => .lst (by
      rcases h with ⟨n, h | ⟨o, h⟩⟩ | h
      · exact .inl ⟨n, .inl (e.keep _ _ (nw _ n) h)⟩
      · exact .inl ⟨n, .inr ⟨o, e.keep _ _ (nw _ n) h⟩⟩
      · exact .inr h) (Dzs.ev e nw r)
theorem Dzs.ev {W : Addr → Prop} (e : Ev W H H') (nw : ∀ a, N a → ¬ W a) : ∀ {v : List V} {d : List Dat}, Dzs N K H v d → Dzs N K H' v d
  | _, _, .nil => .nil
  | _, _, .cons h r => .cons (Dz.ev e nw h) (Dzs.ev e nw r)
end
mutual
theorem Dz.mono (m : ∀ a, N a → N' a) : ∀ {v : V} {d : Dat}, Dz N K H v d → Dz N' K H v d
  | _, _, .none => .none
  | _, _, .bool b => .bool b
  | _, _, .int i => .int i
  | _, _, .str x => .str x
  | _, _, .tup h r => .tup h (Dzs.mono m r)
  | _, _, .lst h r => .lst (h.elim (fun z => .inl ⟨m _ z.1, z.2⟩) .inr) (Dzs.mono m r)
theorem Dzs.mono (m : ∀ a, N a → N' a) : ∀ {v : List V} {d : List Dat}, Dzs N K H v d → Dzs N' K H v d
  | _, _, .nil => .nil
  | _, _, .cons h r => .cons (Dz.mono m h) (Dzs.mono m r)
end
mutual
theorem Dz.is : ∀ {v : V} {d : Dat}, Dz N K H v d → Is K H v d
  | _, _, .none => .none
  | _, _, .bool b => .bool b
  | _, _, .int i => .int i
  | _, _, .str x => .str x
  | _, _, .tup h r => .tup h (Dzs.is r)
  | _, _, .lst h r => .lst h.sq (Dzs.is r)
theorem Dzs.is : ∀ {v : List V} {d : List Dat}, Dzs N K H v d → Iss K H v d
  | _, _, .nil => .nil
  | _, _, .cons h r => .cons (Dz.is h) (Dzs.is r)
end
theorem Dzs.len : ∀ {v : List V} {d : List Dat}, Dzs N K H v d → v.length = d.length
  | _, _, .nil => rfl
  | _, _, .cons _ r => by rw [List.length_cons, List.length_cons, Dzs.len r]
theorem Dzs.app : ∀ {v v' : List V} {d d' : List Dat}, Dzs N K H v d → Dzs N K H v' d' → Dzs N K H (v ++ v') (d ++ d')
  | _, _, _, _, .nil, h => h
  | _, _, _, _, .cons a r, h => .cons a (Dzs.app r h)
theorem Dzs.get : ∀ {v : List V} {d : List Dat} {i : Nat} {e : Dat}, Dzs N K H v d → d[i]? = some e → ∃ x, v[i]? = some x ∧ Dz N K H x e
  | _, _, _, _, .nil, h => by simp at h
  | _, _, 0, _, .cons a r, h => by simp at h; subst h; exact ⟨_, rfl, a⟩
  | _, _, i + 1, e, .cons a r, h => by
    obtain ⟨x, q, z⟩ := Dzs.get (i := i) r (by simpa using h)
    exact ⟨x, by simpa using q, z⟩
theorem Dzs.ints (ns : List Int) : Dzs N K H (ns.map V.int) (ns.map Dat.int) := by
  induction ns with
  | nil => exact .nil
  | cons n ns ih => exact .cons (.int n) ih
theorem Dzs.inv : ∀ {vs : List V} {ns : List Int}, Dzs N K H vs (ns.map Dat.int) → vs = ns.map V.int
  | _, [], h => by cases h; rfl
  | _, n :: ns, h => by
    cases h with
    | cons a r => cases a; rw [Dzs.inv r]; rfl
theorem Dzs.set : ∀ {v : List V} {d : List Dat} {x : V} {e : Dat} (i : Nat), Dzs N K H v d → Dz N K H x e → Dzs N K H (v.set i x) (d.set i e)
  | _, _, _, _, _, .nil, _ => .nil
  | _, _, _, _, 0, .cons a r, h => .cons h r
  | _, _, _, _, i + 1, .cons a r, h => .cons a (Dzs.set i r h)
end
mutual
noncomputable def noL : Dat → Bool
  | .tuple ds => noLs ds
  | .list _ => false
  | .none => true
  | .bool _ => true
  | .int _ => true
  | .str _ => true
  | _ => false
noncomputable def noLs : List Dat → Bool
  | [] => true
  | d :: r => noL d && noLs r
end
section
variable {N N' : Addr → Prop} {K : PySem.W.Frag} {H H' : Hp}
mutual
theorem Dz.free : ∀ {v : V} {d : Dat}, Dz N K H v d → noL d = true → Dz N' K H v d
  | _, _, .none, _ => .none
  | _, _, .bool b, _ => .bool b
  | _, _, .int i, _ => .int i
  | _, _, .str x, _ => .str x
  | _, _, .tup h r, z => .tup h (Dzs.free r (by rw [noL] at z; exact z))
  | _, _, .lst h r, z => by rw [noL] at z; cases z
theorem Dzs.free : ∀ {v : List V} {d : List Dat}, Dzs N K H v d → noLs d = true → Dzs N' K H v d
  | _, _, .nil, _ => .nil
  | _, _, .cons h r, z => by
    rw [noLs, Bool.and_eq_true] at z
    exact .cons (Dz.free h z.1) (Dzs.free r z.2)
end
end
theorem noLs_ints (ns : List Int) : noLs (ns.map .int) = true := by
  induction ns with
  | nil => rw [List.map_nil, noLs]
  | cons n r ih => rw [List.map_cons, noLs, ih, noL]; rfl
structure Ok (p : Option Addr) (W : Addr → Prop) (H : Hp) : Prop where
  pu : ∀ q, p = some q → Pu H q ∧ W q
  al : ∀ a, W a → ∃ ys, H a = some (.lst ys)
inductive Rs (p : Option Addr) (W : Addr → Prop) (K : PySem.W.Frag) (H : Hp) : List Addr → St → List Sl → Prop
  | nil : Rs p W K H [] [] []
  | un {L : List Addr} {σ : St} {τ : List Sl} {o : Option V} : Rs p W K H L σ τ → Rs p W K H L (o :: σ) (.un :: τ)
  | dat {L : List Addr} {σ : St} {τ : List Sl} {v : V} {d : Dat} : Dz (fun a => ¬ W a) K H v d → Rs p W K H L σ τ → Rs p W K H L (some v :: σ) (.dat d :: τ)
  | pu {L : List Addr} {σ : St} {τ : List Sl} {q : Addr} : p = some q → Rs p W K H L σ τ → Rs p W K H L (some (.ref q) :: σ) (.pu :: τ)
  | own {L : List Addr} {σ : St} {τ : List Sl} {a : Addr} {vs : List V} {ds : List Dat} : W a → p ≠ some a → a ∉ L → H a = some (.lst vs) → Dzs (fun a => ¬ W a) K H vs ds → Rs p W K H L σ τ → Rs p W K H (a :: L) (some (.ref a) :: σ) (.own ds :: τ)
noncomputable def Rv (p : Option Addr) (W : Addr → Prop) (K : PySem.W.Frag) (H H' : Hp) (v : V) : Sl → Prop
  | .un => True
  | .dat d => Dz (fun a => ¬ W a) K H' v d
  | .pu => ∃ q, p = some q ∧ v = .ref q
  | .own ds => ∃ a vs, v = .ref a ∧ H a = none ∧ H' a = some (.lst vs) ∧ Dzs (fun a => ¬ W a) K H' vs ds
  | .vw ds => ∃ a vs, v = .ref a ∧ SqN (fun a => p ≠ some a) K H' a vs ∧ Dzs (fun a => ¬ W a) K H' vs ds
inductive Rvs (p : Option Addr) (W : Addr → Prop) (K : PySem.W.Frag) (H H' : Hp) : List V → List Sl → Prop
  | nil : Rvs p W K H H' [] []
  | cons {v : V} {s : Sl} {vs : List V} {ss : List Sl} : Rv p W K H H' v s → Rvs p W K H H' vs ss → Rvs p W K H H' (v :: vs) (s :: ss)
noncomputable def Pp (p : Option Addr) : Addr → Prop := fun a => p = some a
section
variable {p : Option Addr} {W : Addr → Prop} {K : PySem.W.Frag} {H H1 H' : Hp} {σ : St} {τ : List Sl} {L : List Addr} {v : V} {s : Sl}
theorem Ok.ev (o : Ok p W H) (e : Ev (Pp p) H H') (q : ∀ q, p = some q → Pu H' q) : Ok p W H' := ⟨fun a ha => ⟨q a ha, (o.pu a ha).2⟩, fun a ha => by
  by_cases z : p = some a
  · obtain ⟨x, y, h⟩ := q a z; exact ⟨_, h⟩
  · obtain ⟨ys, h⟩ := o.al a ha; exact ⟨ys, e.keep _ _ z h⟩⟩
theorem Rs.ev (r : Rs p W K H L σ τ) (e : Ev (Pp p) H H') (pw : ∀ q, p = some q → W q) : Rs p W K H' L σ τ := by
  have nw : ∀ a, ¬ W a → ¬ Pp p a := fun a n z => n (pw a z)
  induction r with
  | nil => exact .nil
  | un _ ih => exact .un ih
  | dat h _ ih => exact .dat (h.ev e nw) ih
  | pu h _ ih => exact .pu h ih
  | own h1 h2 h3 h4 h5 _ ih => exact .own h1 h2 h3 (e.keep _ _ h2 h4) (h5.ev e nw) ih
theorem Rs.get_dat (r : Rs p W K H L σ τ) : ∀ {i : Nat} {d : Dat}, τ[i]? = some (.dat d) → ∃ v, σ[i]? = some (some v) ∧ Dz (fun a => ¬ W a) K H v d := by
  induction r with
  | nil => intro i d h; simp at h
  | un _ ih =>
    intro i d h
    match i, h with
    | 0, h => simp at h
    | i + 1, h => exact ih (i := i) (by simpa using h)
  | dat z _ ih =>
    intro i d h
    match i, h with
    | 0, h => simp at h; subst h; exact ⟨_, rfl, z⟩
    | i + 1, h => exact ih (i := i) (by simpa using h)
  | pu _ _ ih =>
    intro i d h
    match i, h with
    | 0, h => simp at h
    | i + 1, h => exact ih (i := i) (by simpa using h)
  | own _ _ _ _ _ _ ih =>
    intro i d h
    match i, h with
    | 0, h => simp at h
    | i + 1, h => exact ih (i := i) (by simpa using h)
theorem Rs.get_own (r : Rs p W K H L σ τ) : ∀ {i : Nat} {ds : List Dat}, τ[i]? = some (.own ds) → ∃ a vs, σ[i]? = some (some (.ref a)) ∧ W a ∧ p ≠ some a ∧ a ∈ L ∧ H a = some (.lst vs) ∧ Dzs (fun a => ¬ W a) K H vs ds := by
  induction r with
  | nil => intro i ds h; simp at h
  | un _ ih =>
    intro i ds h
    match i, h with
    | 0, h => simp at h
    | i + 1, h => exact ih (i := i) (by simpa using h)
  | dat z _ ih =>
    intro i ds h
    match i, h with
    | 0, h => simp at h
    | i + 1, h => exact ih (i := i) (by simpa using h)
  | pu z _ ih =>
    intro i ds h
    match i, h with
    | 0, h => simp at h
    | i + 1, h => exact ih (i := i) (by simpa using h)
  | own h1 h2 h3 h4 h5 _ ih =>
    intro i ds h
    match i, h with
    | 0, h => simp at h; subst h; exact ⟨_, _, rfl, h1, h2, List.mem_cons_self, h4, h5⟩
    | i + 1, h =>
      obtain ⟨a, vs, e1, e2, e3, e4, e5⟩ := ih (i := i) (by simpa using h)
      exact ⟨a, vs, by simpa using e1, e2, e3, List.mem_cons_of_mem _ e4, e5⟩
theorem Rs.set (r : Rs p W K H L σ τ) {v : V} {s : Sl} (hs : (s = .un) ∨ (∃ d, s = .dat d ∧ Dz (fun a => ¬ W a) K H v d) ∨ (s = .pu ∧ ∃ q, p = some q ∧ v = .ref q)) : ∀ (i : Nat), ∃ L', (∀ a, a ∈ L' → a ∈ L) ∧ Rs p W K H L' (σ.set i (some v)) (τ.set i s) := by
  induction r with
  | nil => intro i; exact ⟨[], fun _ h => h, .nil⟩
  | un r ih =>
    intro i
    match i with
    | 0 =>
      rcases hs with rfl | ⟨d, rfl, z⟩ | ⟨rfl, q, z, rfl⟩
      · exact ⟨_, fun _ h => h, .un r⟩
      · exact ⟨_, fun _ h => h, .dat z r⟩
      · exact ⟨_, fun _ h => h, .pu z r⟩
    | i + 1 => obtain ⟨L', h1, h2⟩ := ih i; exact ⟨L', h1, .un h2⟩
  | dat y r ih =>
    intro i
    match i with
    | 0 =>
      rcases hs with rfl | ⟨d, rfl, z⟩ | ⟨rfl, q, z, rfl⟩
      · exact ⟨_, fun _ h => h, .un r⟩
      · exact ⟨_, fun _ h => h, .dat z r⟩
      · exact ⟨_, fun _ h => h, .pu z r⟩
    | i + 1 => obtain ⟨L', h1, h2⟩ := ih i; exact ⟨L', h1, .dat y h2⟩
  | pu y r ih =>
    intro i
    match i with
    | 0 =>
      rcases hs with rfl | ⟨d, rfl, z⟩ | ⟨rfl, q, z, rfl⟩
      · exact ⟨_, fun _ h => h, .un r⟩
      · exact ⟨_, fun _ h => h, .dat z r⟩
      · exact ⟨_, fun _ h => h, .pu z r⟩
    | i + 1 => obtain ⟨L', h1, h2⟩ := ih i; exact ⟨L', h1, .pu y h2⟩
  | own h1 h2 h3 h4 h5 r ih =>
    intro i
    match i with
    | 0 =>
      rcases hs with rfl | ⟨d, rfl, z⟩ | ⟨rfl, q, z, rfl⟩
      · exact ⟨_, fun _ h => List.mem_cons_of_mem _ h, .un r⟩
      · exact ⟨_, fun _ h => List.mem_cons_of_mem _ h, .dat z r⟩
      · exact ⟨_, fun _ h => List.mem_cons_of_mem _ h, .pu z r⟩
    | i + 1 =>
      obtain ⟨L', g1, g2⟩ := ih i
      refine ⟨_ :: L', fun b hb => ?_, .own h1 h2 (fun z => h3 (g1 _ z)) h4 h5 g2⟩
      rcases List.mem_cons.mp hb with rfl | hb
      · exact List.mem_cons_self
      · exact List.mem_cons_of_mem _ (g1 b hb)
theorem Rs.wide {W' : Addr → Prop} (r : Rs p W K H L σ τ) (m : ∀ a, W a → W' a) (n : ∀ a, W' a → ¬ W a → H a = none) : Rs p W' K H L σ τ := by
  induction r with
  | nil => exact .nil
  | un _ ih => exact .un ih
  | dat h _ ih => exact .dat (wideZ h) ih
  | pu h _ ih => exact .pu h ih
  | own h1 h2 h3 h4 h5 _ ih => exact .own (m _ h1) h2 h3 h4 (wideZs h5) ih
where
  wideZ : ∀ {v : V} {d : Dat}, Dz (fun a => ¬ W a) K H v d → Dz (fun a => ¬ W' a) K H v d
    | _, _, .none => .none
    | _, _, .bool b => .bool b
    | _, _, .int i => .int i
    | _, _, .str x => .str x
    | _, _, .tup h r => .tup h (wideZs r)
    | _, _, .lst h r => .lst (by
        rcases h with ⟨nn, h⟩ | h
        · refine .inl ⟨fun z => ?_, h⟩
          have e1 := n _ z nn
          rcases h with h | ⟨o, h⟩
          · rw [e1] at h; cases h
          · rw [e1] at h; cases h
        · exact .inr h) (wideZs r)
  wideZs : ∀ {v : List V} {d : List Dat}, Dzs (fun a => ¬ W a) K H v d → Dzs (fun a => ¬ W' a) K H v d
    | _, _, .nil => .nil
    | _, _, .cons h r => .cons (wideZ h) (wideZs r)
end
end D
end

section
set_option Elab.async false
set_option linter.all false
set_option maxRecDepth 100000
set_option maxHeartbeats 4000000
namespace D
open PySem L2 K0
open PySem.W (Dat)
section
variable (p : Option Addr) (K : PySem.W.Frag)
noncomputable def E (te : TE) (τ : List Sl) (C : Sl → Prop) : Prop := ∀ (W : Addr → Prop) (L : List Addr) (σ : St) (H : Hp) (Q : VK), Rs p W K H L σ τ → Ok p W H → (∀ v H' s, C s → Ev (Pp p) H H' → Ok p W H' → Rv p W K H H' v s → Q v H') → te σ H Q
noncomputable def E1 (te : TE) (τ : List Sl) (s : Sl) : Prop := E p K te τ (fun x => s = x)
noncomputable def A (ta : TA) (τ : List Sl) (C : List Sl → Prop) : Prop := ∀ (W : Addr → Prop) (L : List Addr) (σ : St) (H : Hp) (Q : List V → Hp → Prop), Rs p W K H L σ τ → Ok p W H → (∀ vs H' ss, C ss → Ev (Pp p) H H' → Ok p W H' → Rvs p W K H H' vs ss → Q vs H') → ta σ H Q
noncomputable def A1 (ta : TA) (τ : List Sl) (ss : List Sl) : Prop := A p K ta τ (fun x => ss = x)
noncomputable def T (tt : TT) (τ : List Sl) (C : Bool → Prop) : Prop := ∀ (W : Addr → Prop) (L : List Addr) (σ : St) (H : Hp) (Q : Bool → Hp → Prop), Rs p W K H L σ τ → Ok p W H → (∀ b H', C b → Ev (Pp p) H H' → Ok p W H' → Q b H') → tt σ H Q
noncomputable def T1 (tt : TT) (τ : List Sl) (b : Bool) : Prop := T p K tt τ (fun x => b = x)
end
section
variable {p : Option Addr} {K : PySem.W.Frag} {W : Addr → Prop} {L : List Addr} {σ : St} {H H0 H1 H2 : Hp} {τ : List Sl} {ta tb te : TE} {tas : TA} {v : V} {s : Sl}
theorem Ok.pw (o : Ok p W H) : ∀ q, p = some q → W q := fun q h => (o.pu q h).2
theorem Ok.nw (o : Ok p W H) : ∀ a, ¬ W a → ¬ Pp p a := fun a n z => n (o.pw a z)
theorem Ok.same (o : Ok p W H) (s : Same H H1) : Ok p W H1 := o.ev (Ev.of s) fun q h => (o.pu q h).1.same s
theorem Ok.back (o : Ok p W H1) (e : Ev (Pp p) H H1) {a : Addr} (h : H1 a = none) : H a = none := by
  cases q : H a with
  | none => rfl
  | some u =>
    by_cases z : p = some a
    · obtain ⟨x, y, e2⟩ := (o.pu a z).1; rw [h] at e2; cases e2
    · rw [e.keep _ _ z q] at h; cases h
theorem Ok.fresh (o : Ok p W H) {a : Addr} (h : H a = none) : ¬ W a := fun z => by
  obtain ⟨ys, e⟩ := o.al a z; rw [h] at e; cases e
theorem Ok.np (o : Ok p W H) {a : Addr} (h : H a = none) : p ≠ some a := fun z => o.fresh h (o.pw a z)
theorem Rv.ev (h : Rv p W K H0 H v s) (e : Ev (Pp p) H H1) (o : Ok p W H) (o0 : Ok p W H0) : Rv p W K H0 H1 v s := by
  cases s with
  | un => trivial
  | dat d => exact Dz.ev e o.nw h
  | pu => exact h
  | own ds =>
    obtain ⟨a, vs, rfl, h1, h2, h3⟩ := h
    exact ⟨a, vs, rfl, h1, e.keep _ _ (o0.np h1) h2, h3.ev e o.nw⟩
  | vw ds =>
    obtain ⟨a, vs, rfl, h2, h3⟩ := h
    refine ⟨a, vs, rfl, ?_, h3.ev e o.nw⟩
    rcases h2 with ⟨z, h2 | ⟨u, h2⟩⟩ | h2
    · exact .inl ⟨z, .inl (e.keep _ _ z h2)⟩
    · exact .inl ⟨z, .inr ⟨u, e.keep _ _ z h2⟩⟩
    · exact .inr h2
theorem Rv.base (h : Rv p W K H1 H v s) (e : Ev (Pp p) H0 H1) (o1 : Ok p W H1) : Rv p W K H0 H v s := by
  cases s with
  | own ds => obtain ⟨a, vs, rfl, h1, h2⟩ := h; exact ⟨a, vs, rfl, o1.back e h1, h2⟩
  | _ => exact h
theorem Rvs.base {vs : List V} {ss : List Sl} (h : Rvs p W K H1 H vs ss) (e : Ev (Pp p) H0 H1) (o1 : Ok p W H1) : Rvs p W K H0 H vs ss := by
  induction h with
  | nil => exact .nil
  | cons a _ ih => exact .cons (a.base e o1) ih
theorem E.mono {C C' : Sl → Prop} (h : E p K te τ C) (m : ∀ s, C s → C' s) : E p K te τ C' := fun W L σ H Q r o q => h W L σ H Q r o fun v H' s c => q v H' s (m s c)
theorem E1.var {i : Nat} {d : Dat} (h : τ[i]? = some (.dat d)) : E1 p K (tVar i) τ (.dat d) := fun W L σ H Q r o q => by
  obtain ⟨v, e, z⟩ := r.get_dat h
  exact ⟨v, e, q v H _ rfl Ev.refl o z⟩
theorem E1.varO {i : Nat} {ds : List Dat} (h : τ[i]? = some (.own ds)) : E1 p K (tVar i) τ (.vw ds) := fun W L σ H Q r o q => by
  obtain ⟨a, vs, e, w, n, _, h1, z⟩ := r.get_own h
  exact ⟨_, e, q _ H _ rfl Ev.refl o ⟨a, vs, rfl, .inl ⟨n, .inl h1⟩, z⟩⟩
theorem E1.varL {i : Nat} {ds : List Dat} (h : τ[i]? = some (.dat (.list ds))) : E1 p K (tVar i) τ (.vw ds) := fun W L σ H Q r o q => by
  obtain ⟨v, e, z⟩ := r.get_dat h
  cases z with
  | lst h1 h2 => exact ⟨_, e, q _ H _ rfl Ev.refl o ⟨_, _, rfl, h1.elim (fun z => .inl ⟨fun y => z.1 (o.pw _ y), z.2⟩) .inr, h2⟩⟩
theorem E1.int {i : Int} : E1 p K (tC (.int i)) τ (.dat (.int i)) := fun W L σ H Q r o q => q _ H _ rfl Ev.refl o (.int i)
theorem E1.bl {i : Bool} : E1 p K (tC (.bl i)) τ (.dat (.bool i)) := fun W L σ H Q r o q => q _ H _ rfl Ev.refl o (.bool i)
theorem E1.frz {ds : List Dat} (h : E1 p K te τ (.own ds)) : E1 p K te τ (.dat (.list ds)) := fun W L σ H Q r o q => h W L σ H Q r o fun v H' s e ev o' rv => by
  subst e
  obtain ⟨a, vs, rfl, h1, h2, h3⟩ := rv
  exact q _ H' _ rfl ev o' (.lst (.inl ⟨o.fresh h1, .inl h2⟩) h3)
theorem E1.vwo {ds : List Dat} (h : E1 p K te τ (.own ds)) : E1 p K te τ (.vw ds) := fun W L σ H Q r o q => h W L σ H Q r o fun v H' s e ev o' rv => by
  subst e
  obtain ⟨a, vs, rfl, h1, h2, h3⟩ := rv
  exact q _ H' _ rfl ev o' ⟨a, vs, rfl, .inl ⟨o.np h1, .inl h2⟩, h3⟩
theorem E.op2 {r : R2} {A B C : Sl → Prop} {B' : Sl → Sl → Prop} (ha : E p K ta τ A) (hb : ∀ s, A s → E p K tb τ (B' s))
    (hr : ∀ s t, A s → B' s t → ∀ (W : Addr → Prop) (H0 H : Hp) (x y : V) (Q : VK), Ok p W H0 → Ok p W H → Rv p W K H0 H x s → Rv p W K H0 H y t → (∀ v H' u, C u → Ev (Pp p) H H' → Ok p W H' → Rv p W K H0 H' v u → Q v H') → r x y H Q) : E p K (tOp r ta tb) τ C :=
  fun W L σ H Q rs o q => ha W L σ H _ rs o fun x H1 s cs e1 o1 rv1 => hb s cs W L σ H1 _ (rs.ev e1 o.pw) o1 fun y H2 t ct e2 o2 rv2 =>
    hr s t cs ct W H H2 x y _ o o2 (rv1.ev e2 o1 o) (rv2.base e1 o1) fun v H' u cu e3 o3 rv3 => q v H' u cu ((e1.trans e2).trans e3) o3 rv3
theorem E1.op2 {r : R2} {a b c : Sl} (ha : E1 p K ta τ a) (hb : E1 p K tb τ b)
    (hr : ∀ (W : Addr → Prop) (H0 H : Hp) (x y : V) (Q : VK), Ok p W H0 → Ok p W H → Rv p W K H0 H x a → Rv p W K H0 H y b → (∀ v H', Ev (Pp p) H H' → Ok p W H' → Rv p W K H0 H' v c → Q v H') → r x y H Q) : E1 p K (tOp r ta tb) τ c :=
  E.op2 (B := fun _ => True) (B' := fun _ x => b = x) ha (fun _ _ => hb) fun s t hs ht W H0 H x y Q o0 o r1 r2 q => by
    subst hs ht
    exact hr W H0 H x y Q o0 o r1 r2 fun v H' => q v H' c rfl
theorem Rv.int_inv {i : Int} (h : Rv p W K H0 H v (.dat (.int i))) : v = .int i := by cases h; rfl
theorem Rv.bl_inv {i : Bool} (h : Rv p W K H0 H v (.dat (.bool i))) : v = .bl i := by cases h; rfl
theorem E1.opI0 {g : Int → Int → V} {i j : Int} {d : Dat} (ha : E1 p K ta τ (.dat (.int i))) (hb : E1 p K tb τ (.dat (.int j))) (hd : ∀ (N : Addr → Prop) (K : PySem.W.Frag) (H : Hp), Dz N K H (g i j) d) : E1 p K (tOp (rI0 g) ta tb) τ (.dat d) :=
  E1.op2 ha hb fun W H0 H x y Q o0 o r1 r2 q => ⟨i, j, r1.int_inv, r2.int_inv, q _ H Ev.refl o (hd _ K H)⟩
theorem E1.opI {g : Int → Int → V} {Cn : Int → Int → Prop} {i j : Int} {d : Dat} (ha : E1 p K ta τ (.dat (.int i))) (hb : E1 p K tb τ (.dat (.int j))) (hc : Cn i j) (hd : ∀ (N : Addr → Prop) (K : PySem.W.Frag) (H : Hp), Dz N K H (g i j) d) : E1 p K (tOp (rI Cn g) ta tb) τ (.dat d) :=
  E1.op2 ha hb fun W H0 H x y Q o0 o r1 r2 q => ⟨i, j, r1.int_inv, r2.int_inv, hc, q _ H Ev.refl o (hd _ K H)⟩
section
variable {i j : Int} (ha : E1 p K ta τ (.dat (.int i))) (hb : E1 p K tb τ (.dat (.int j)))
include ha hb
theorem E1.add : E1 p K (tOp (rI0 fun i j => .int (i + j)) ta tb) τ (.dat (.int (i + j))) := E1.opI0 ha hb fun _ _ _ => .int _
theorem E1.sub : E1 p K (tOp (rI0 fun i j => .int (i - j)) ta tb) τ (.dat (.int (i - j))) := E1.opI0 ha hb fun _ _ _ => .int _
theorem E1.mul (hc : IntMulOk i j) : E1 p K (tOp (rI IntMulOk fun i j => .int (i * j)) ta tb) τ (.dat (.int (i * j))) := E1.opI ha hb hc fun _ _ _ => .int _
theorem E1.fdiv (hc : CDivB i j) : E1 p K (tOp (rI CDivB fun i j => .int (i.fdiv j)) ta tb) τ (.dat (.int (i.fdiv j))) := E1.opI ha hb hc fun _ _ _ => .int _
theorem E1.mod (hc : 0 < j) : E1 p K (tOp (rI (fun _ j => 0 < j) fun i j => .int (i % j)) ta tb) τ (.dat (.int (i % j))) := E1.opI ha hb hc fun _ _ _ => .int _
theorem E1.pow (hc : CPow i j) : E1 p K (tOp (rI CPow fun i j => .int (i ^ j.toNat)) ta tb) τ (.dat (.int (i ^ j.toNat))) := E1.opI ha hb hc fun _ _ _ => .int _
theorem E1.lt : E1 p K (tOp (rI0 fun i j => .bl (decide (i < j))) ta tb) τ (.dat (.bool (decide (i < j)))) := E1.opI0 ha hb fun _ _ _ => .bool _
theorem E1.gt : E1 p K (tOp (rI0 fun i j => .bl (decide (j < i))) ta tb) τ (.dat (.bool (decide (j < i)))) := E1.opI0 ha hb fun _ _ _ => .bool _
theorem E1.eq : E1 p K (tOp rEq ta tb) τ (.dat (.bool (decide (i = j)))) := E1.op2 ha hb fun W H0 H x y Q o0 o r1 r2 q => by
  cases r1.int_inv; cases r2.int_inv
  refine ⟨rfl, q _ H Ev.refl o ?_⟩
  have e : decide (V.int i = V.int j) = decide (i = j) := by rw [decide_eq_decide]; exact ⟨fun h => by injection h, fun h => by rw [h]⟩
  rw [e]; exact .bool _
theorem E1.ne : E1 p K (tOp rNe ta tb) τ (.dat (.bool (!decide (i = j)))) := E1.op2 ha hb fun W H0 H x y Q o0 o r1 r2 q => by
  cases r1.int_inv; cases r2.int_inv
  refine ⟨rfl, q _ H Ev.refl o ?_⟩
  have e : decide (V.int i = V.int j) = decide (i = j) := by rw [decide_eq_decide]; exact ⟨fun h => by injection h, fun h => by rw [h]⟩
  rw [e]; exact .bool _
end
theorem E1.neg {i : Int} (ha : E1 p K ta τ (.dat (.int i))) : E1 p K (tUn (rU fun i => .int (-i)) ta) τ (.dat (.int (-i))) := fun W L σ H Q rs o q => ha W L σ H _ rs o fun x H1 s e e1 o1 rv => by
  subst e; cases rv.int_inv
  exact ⟨i, rfl, q _ H1 _ rfl e1 o1 (.int _)⟩
noncomputable def datOf : Sl → Option Dat
  | .dat d => some d
  | .vw ds => some (.list ds)
  | .own ds => some (.list ds)
  | _ => none
theorem Rv.isD {d : Dat} (h : Rv p W K H0 H v s) (e : datOf s = some d) : Is K H v d := by
  cases s with
  | un => cases e
  | pu => cases e
  | dat d' => cases e; exact Dz.is h
  | own ds => cases e; obtain ⟨a, vs, rfl, _, h2, h3⟩ := h; exact .lst (SqL.of h2) h3.is
  | vw ds => cases e; obtain ⟨a, vs, rfl, h2, h3⟩ := h; exact .lst h2.sq h3.is
theorem E1.eqD {a b : Sl} {d e : Dat} (ha : E1 p K ta τ a) (hb : E1 p K tb τ b) (ea : datOf a = some d) (eb : datOf b = some e) (k1 : PySem.W.kqdOk 9 d = true) (k2 : PySem.W.kqdOk 9 e = true) : E1 p K (tOp (rEqD K false) ta tb) τ (.dat (.bool (deq d e))) :=
  E1.op2 ha hb fun W H0 H x y Q o0 o r1 r2 q => ⟨d, e, r1.isD ea, r2.isD eb, k1, k2, q _ H Ev.refl o (.bool _)⟩
theorem E1.neD {a b : Sl} {d e : Dat} (ha : E1 p K ta τ a) (hb : E1 p K tb τ b) (ea : datOf a = some d) (eb : datOf b = some e) (k1 : PySem.W.kqdOk 9 d = true) (k2 : PySem.W.kqdOk 9 e = true) : E1 p K (tOp (rEqD K true) ta tb) τ (.dat (.bool (!deq d e))) :=
  E1.op2 ha hb fun W H0 H x y Q o0 o r1 r2 q => ⟨d, e, r1.isD ea, r2.isD eb, k1, k2, q _ H Ev.refl o (.bool _)⟩
theorem atI_dz {N : Addr → Prop} {xs : List V} {ds : List Dat} {i : Int} {d : Dat} (h : Dzs N K H xs ds) (e : atI ds i = some d) : ∃ x, atI xs i = some x ∧ Dz N K H x d := by
  unfold atI at e ⊢
  rw [h.len]
  cases q : ixN ds.length i with
  | none => rw [q] at e; cases e
  | some j =>
    rw [q] at e
    obtain ⟨x, e1, e2⟩ := h.get (i := j) (by simpa using e)
    exact ⟨x, by simpa using e1, e2⟩
theorem E1.ixT {ds : List Dat} {i : Int} {d : Dat} (ha : E1 p K ta τ (.dat (.tuple ds))) (hb : E1 p K tb τ (.dat (.int i))) (h : atI ds i = some d) : E1 p K (tOp (rIxT K) ta tb) τ (.dat d) :=
  E1.op2 ha hb fun W H0 H x y Q o0 o r1 r2 q => by
    cases r2.int_inv
    cases r1 with
    | tup h1 h2 =>
      obtain ⟨x, e1, e2⟩ := atI_dz h2 h
      exact ⟨_, _, i, x, rfl, rfl, h1, e1, q _ H Ev.refl o e2⟩
theorem E1.ixL {ds : List Dat} {i : Int} {d : Dat} (ha : E1 p K ta τ (.vw ds)) (hb : E1 p K tb τ (.dat (.int i))) (h : atI ds i = some d) : E1 p K (tOp (rIxL K) ta tb) τ (.dat d) :=
  E1.op2 ha hb fun W H0 H x y Q o0 o r1 r2 q => by
    cases r2.int_inv
    obtain ⟨a, vs, rfl, h1, h2⟩ := r1
    obtain ⟨x, e1, e2⟩ := atI_dz h2 h
    exact ⟨_, _, i, x, rfl, rfl, h1.sq, e1, q _ H Ev.refl o e2⟩
theorem A1.nil : A1 p K tNil τ [] := fun W L σ H Q rs o q => q [] H _ rfl Ev.refl o .nil
theorem A.cons {C1 : Sl → Prop} {C2 : Sl → List Sl → Prop} {C : List Sl → Prop} (ha : E p K te τ C1) (hr : ∀ s, C1 s → A p K tas τ (C2 s)) (m : ∀ s ss, C1 s → C2 s ss → C (s :: ss)) : A p K (tCons te tas) τ C := fun W L σ H Q rs o q =>
  ha W L σ H _ rs o fun x H1 s c1 e1 o1 rv1 => hr s c1 W L σ H1 _ (rs.ev e1 o.pw) o1 fun xs H2 ss c2 e2 o2 rv2 => q _ H2 _ (m s ss c1 c2) (e1.trans e2) o2 (.cons (rv1.ev e2 o1 o) (rv2.base e1 o1))
theorem A1.cons {ss : List Sl} (ha : E1 p K te τ s) (hr : A1 p K tas τ ss) : A1 p K (tCons te tas) τ (s :: ss) := A.cons (C2 := fun _ x => ss = x) ha (fun _ _ => hr) fun s ss h1 h2 => by rw [h1, h2]
theorem Rvs.dats {ds : List Dat} {vs : List V} (h : Rvs p W K H0 H vs (ds.map .dat)) : Dzs (fun a => ¬ W a) K H vs ds := by
  induction ds generalizing vs with
  | nil => cases h; exact .nil
  | cons d r ih =>
    cases h with
    | cons a t => exact .cons a (ih t)
theorem Rvs.len {ss : List Sl} {vs : List V} (h : Rvs p W K H0 H vs ss) : vs.length = ss.length := by
  induction h with
  | nil => rfl
  | cons _ _ ih => rw [List.length_cons, List.length_cons, ih]
theorem E1.tup {ds : List Dat} (h : A1 p K tas τ (ds.map .dat)) (hz : ds.length ≤ sizeLine) : E1 p K (tTup tas) τ (.dat (.tuple ds)) := fun W L σ H Q rs o q =>
  h W L σ H _ rs o fun vs H1 ss e e1 o1 rv => by
    subst e
    refine ⟨by rw [rv.len, List.length_map]; exact hz, fun a ha => ?_⟩
    have s1 := Same.new ha (.tup vs)
    exact q _ _ _ rfl (e1.trans (Ev.of s1)) (o1.same s1) (.tup (SqT.of upd_same) (rv.dats.ev (W := Pp p) (Ev.of s1) o1.nw))
theorem E1.lst {ds : List Dat} (h : A1 p K tas τ (ds.map .dat)) (hz : ds.length ≤ sizeLine) : E1 p K (tLst tas) τ (.own ds) := fun W L σ H Q rs o q =>
  h W L σ H _ rs o fun vs H1 ss e e1 o1 rv => by
    subst e
    refine ⟨by rw [rv.len, List.length_map]; exact hz, fun a ha => ?_⟩
    have s1 := Same.new ha (.lst vs)
    exact q _ _ _ rfl (e1.trans (Ev.of s1)) (o1.same s1) ⟨a, vs, rfl, o1.back e1 ha, upd_same, rv.dats.ev (W := Pp p) (Ev.of s1) o1.nw⟩
theorem E1.to {s' : Sl} (h : E1 p K te τ s) (e : s = s') : E1 p K te τ s' := e ▸ h
theorem T1.test {b : Bool} (h : E1 p K te τ (.dat (.bool b))) : T1 p K (tTest te) τ b := fun W L σ H Q rs o q => h W L σ H _ rs o fun v H' s e e1 o1 rv => by
  subst e; cases rv.bl_inv; exact ⟨b, rfl, q b H' rfl e1 o1⟩
theorem T1.val {b : Bool} (h : E1 p K te τ (.dat (.bool b))) : T1 p K (tB te) τ b := fun W L σ H Q rs o q => h W L σ H _ rs o fun v H' s e e1 o1 rv => by
  subst e; cases rv.bl_inv; exact ⟨b, rfl, q b H' rfl e1 o1⟩
theorem T1.not {tt : TT} {b : Bool} (h : T1 p K tt τ b) : T1 p K (tNot tt) τ (!b) := fun W L σ H Q rs o q => h W L σ H _ rs o fun v H' e e1 o1 => by
  subst e; exact q _ H' rfl e1 o1
theorem T.and {tt tu : TT} {C D : Bool → Prop} (h : T p K tt τ C) (ht : C true → T p K tu τ D) (hf : C false → D false) : T p K (tAnd tt tu) τ D := fun W L σ H Q rs o q => h W L σ H _ rs o fun v H' c e1 o1 => by
  cases v with
  | true => rw [if_pos rfl]; exact ht c W L σ H' _ (rs.ev e1 o.pw) o1 fun b H2 d e2 => q b H2 d (e1.trans e2)
  | false => rw [if_neg (by decide)]; exact q _ H' (hf c) e1 o1
theorem T.or {tt tu : TT} {C D : Bool → Prop} (h : T p K tt τ C) (ht : C true → D true) (hf : C false → T p K tu τ D) : T p K (tOr tt tu) τ D := fun W L σ H Q rs o q => h W L σ H _ rs o fun v H' c e1 o1 => by
  cases v with
  | false => rw [if_neg (by decide)]; exact hf c W L σ H' _ (rs.ev e1 o.pw) o1 fun b H2 d e2 => q b H2 d (e1.trans e2)
  | true => rw [if_pos rfl]; exact q _ H' (ht c) e1 o1
theorem T1.orF {tt tu : TT} (h : T1 p K tt τ false) (h2 : T1 p K tu τ false) : T1 p K (tOr tt tu) τ false := T.or h (fun z => by cases z) fun _ => h2
theorem E1.andV {b c : Bool} (h : E1 p K ta τ (.dat (.bool b))) (h2 : b = true → E1 p K tb τ (.dat (.bool c))) (hc : b = false → c = false) : E1 p K (tAndV ta tb) τ (.dat (.bool c)) := fun W L σ H Q rs o q => h W L σ H _ rs o fun v H' s e e1 o1 rv => by
  subst e; cases rv.bl_inv
  refine ⟨b, rfl, ?_⟩
  cases b with
  | true => rw [if_pos rfl]; exact h2 rfl W L σ H' _ (rs.ev e1 o.pw) o1 fun v H2 s e e2 o2 rv => q v H2 s e (e1.trans e2) o2 (rv.base e1 o1)
  | false => rw [if_neg (by decide)]; rw [hc rfl] at q; exact q _ H' _ rfl e1 o1 (.bool _)
end
end D
end

section
set_option Elab.async false
set_option linter.all false
set_option maxRecDepth 100000
set_option maxHeartbeats 4000000
namespace D
open PySem L2 K0
open PySem.W (Dat)
noncomputable def Rr (p : Option Addr) (W : Addr → Prop) (K : PySem.W.Frag) (L : List Addr) (H H' : Hp) (v : V) : Sl → Prop
  | .own ds => ∃ a vs, v = .ref a ∧ (a ∈ L ∨ H a = none) ∧ H' a = some (.lst vs) ∧ Dzs (fun a => ¬ W a) K H' vs ds
  | s => Rv p W K H H' v s
section
variable (p : Option Addr) (K : PySem.W.Frag)
noncomputable def S (ts : TS) (τ : List Sl) (nx : List Sl → Prop) (rt : Sl → Prop) : Prop := ∀ (W : Addr → Prop) (L : List Addr) (σ : St) (H : Hp) (D : Ends), Rs p W K H L σ τ → Ok p W H →
  (∀ (W' : Addr → Prop) (L' : List Addr) σ' H' τ', nx τ' → Ev W H H' → Ok p W' H' → (∀ a, W a → ∃ ys, H' a = some (.lst ys)) → (∀ a, W' a → W a ∨ H a = none) → (∀ a, a ∈ L' → a ∈ L ∨ H a = none) → Rs p W' K H' L' σ' τ' → D.nx σ' H') →
  (∀ (W' : Addr → Prop) H' v s, rt s → Ev W H H' → Ok p W' H' → (∀ a, W a → ∃ ys, H' a = some (.lst ys)) → (∀ a, W' a → W a ∨ H a = none) → Rr p W' K L H H' v s → D.rt v H') → ts D σ H
end
section
variable {p : Option Addr} {K : PySem.W.Frag} {W : Addr → Prop} {L : List Addr} {σ : St} {H H0 H1 H2 : Hp} {τ : List Sl} {ta tb te : TE} {tas : TA} {v : V} {s : Sl} {nx : List Sl → Prop} {rt : Sl → Prop} {t u : TS}
theorem Rv.rr (h : Rv p W K H0 H v s) : Rr p W K L H0 H v s := by
  cases s with
  | own ds => obtain ⟨a, vs, e, h1, h2⟩ := h; exact ⟨a, vs, e, .inr h1, h2⟩
  | _ => exact h
theorem Rr.base {L' : List Addr} (h : Rr p W K L' H1 H v s) (hn : ∀ a, H1 a = none → H0 a = none) (hl : ∀ a, a ∈ L' → a ∈ L ∨ H0 a = none) : Rr p W K L H0 H v s := by
  cases s with
  | own ds => obtain ⟨a, vs, e, h1, h2⟩ := h; exact ⟨a, vs, e, h1.elim (hl a) fun z => .inr (hn a z), h2⟩
  | _ => exact h
theorem Ev.ofP (e : Ev (Pp p) H H1) (o : Ok p W H) : Ev W H H1 := e.mono o.pw
theorem Ev.chain {W W' : Addr → Prop} (e : Ev W H H1) (e2 : Ev W' H1 H2) (n : ∀ a, W' a → W a ∨ H a = none) : Ev W H H2 := ⟨fun b o nb h => e2.keep b o (fun z => by
  rcases n b z with y | y
  · exact nb y
  · rw [h] at y; cases y) (e.keep b o nb h), e.tm.trans e2.tm⟩
theorem Ev.none (e : Ev W H H1) (al : ∀ a, W a → ∃ ys, H1 a = some (.lst ys)) {a : Addr} (h : H1 a = none) : H a = none := by
  cases q : H a with
  | none => rfl
  | some u =>
    by_cases z : W a
    · obtain ⟨ys, e2⟩ := al a z; rw [h] at e2; cases e2
    · rw [e.keep _ _ z q] at h; cases h
theorem al_chain {W W1 : Addr → Prop} (w1 : ∀ a, W a → ∃ ys, H1 a = some (.lst ys)) (w2 : ∀ a, W1 a → ∃ ys, H2 a = some (.lst ys)) (e2 : Ev W1 H1 H2) : ∀ a, W a → ∃ ys, H2 a = some (.lst ys) := fun a ha => by
  by_cases z : W1 a
  · exact w2 a z
  · obtain ⟨ys, h⟩ := w1 a ha; exact ⟨ys, e2.keep _ _ z h⟩
theorem S.seq {M : List Sl → Prop} (h1 : S p K t τ M rt) (h2 : ∀ τ', M τ' → S p K u τ' nx rt) : S p K (tSeq t u) τ nx rt := fun W L σ H D r o q1 q2 =>
  h1 W L σ H _ r o (fun W1 L1 σ1 H1 τ1 m e1 o1 w1 n1 l1 r1 => by
    have hn : ∀ a, H1 a = none → H a = none := fun a ha => e1.none w1 ha
    exact h2 τ1 m W1 L1 σ1 H1 D r1 o1 (fun W2 L2 σ2 H2 τ2 c e2 o2 w2 n2 l2 r2 => q1 W2 L2 σ2 H2 τ2 c (e1.chain e2 n1) o2 (al_chain w1 w2 e2)
        (fun a ha => (n2 a ha).elim (n1 a) fun z => .inr (hn a z)) (fun a ha => (l2 a ha).elim (l1 a) fun z => .inr (hn a z)) r2)
      fun W2 H2 v s c e2 o2 w2 n2 rv => q2 W2 H2 v s c (e1.chain e2 n1) o2 (al_chain w1 w2 e2) (fun a ha => (n2 a ha).elim (n1 a) fun z => .inr (hn a z)) (rv.base hn l1)) q2
theorem S.next (h : nx τ) : S p K tNext τ nx rt := fun W L σ H D r o q1 q2 => q1 W L σ H τ h Ev.refl o o.al (fun _ h => .inl h) (fun _ h => .inl h) r
theorem S.ret {C : Sl → Prop} (h : E p K te τ C) (m : ∀ s, C s → rt s) : S p K (tRet te) τ nx rt := fun W L σ H D r o q1 q2 => h W L σ H _ r o fun v H' s c e o' rv => q2 W H' v s (m s c) (e.ofP o) o' o'.al (fun _ h => .inl h) rv.rr
theorem S.ret1 (h : E1 p K te τ s) (m : rt s) : S p K (tRet te) τ nx rt := S.ret h fun x e => e ▸ m
theorem S.iff {tc : TT} {C : Bool → Prop} (h : T p K tc τ C) (ht : C true → S p K t τ nx rt) (hf : C false → S p K u τ nx rt) : S p K (tIfS tc t u) τ nx rt := fun W L σ H D r o q1 q2 => h W L σ H _ r o fun b H1 c e o1 => by
  have e1 := e.ofP o
  have hn : ∀ a, H1 a = none → H a = none := fun a ha => e1.none (fun a h => o1.al a h) ha
  have go : ∀ {t : TS}, S p K t τ nx rt → t D σ H1 := fun h => h W L σ H1 D (r.ev e o.pw) o1 (fun W2 L2 σ2 H2 τ2 c e2 o2 w2 n2 l2 r2 => q1 W2 L2 σ2 H2 τ2 c (e1.trans e2) o2 (al_chain o1.al w2 e2) (fun a ha => (n2 a ha).elim .inl fun z => .inr (hn a z)) (fun a ha => (l2 a ha).elim .inl fun z => .inr (hn a z)) r2)
      fun W2 H2 v s c e2 o2 w2 n2 rv => q2 W2 H2 v s c (e1.trans e2) o2 (al_chain o1.al w2 e2) (fun a ha => (n2 a ha).elim .inl fun z => .inr (hn a z)) (rv.base hn fun _ h => .inl h)
  cases b with
  | true => rw [if_pos rfl]; exact go (ht c)
  | false => rw [if_neg (by decide)]; exact go (hf c)
theorem S.if1 {tc : TT} {b : Bool} (h : T1 p K tc τ b) (ht : b = true → S p K t τ nx rt) (hf : b = false → S p K u τ nx rt) : S p K (tIfS tc t u) τ nx rt := S.iff h ht hf
theorem S.ifs {tc : TT} {b : Bool} (h : T1 p K tc τ b) (ht : b = true → S p K t τ (fun τ' => S p K u τ' nx rt) rt) (hf : b = false → S p K u τ nx rt) : S p K (tSeq (tIfS tc t tNext) u) τ nx rt :=
  S.seq (M := fun τ' => S p K u τ' nx rt) (S.if1 h ht fun z => S.next (hf z)) fun _ h => h
theorem S.ifsF {tc : TT} (h : T1 p K tc τ false) (hf : S p K u τ nx rt) : S p K (tSeq (tIfS tc t tNext) u) τ nx rt := S.ifs h (fun z => by cases z) fun _ => hf
noncomputable def flat : Sl → Bool
  | .own _ => false
  | .vw _ => false
  | _ => true
theorem S.asg {C : Sl → Prop} {i : Nat} (h : E p K te τ C) (hf : ∀ s, C s → flat s = true) (m : ∀ s, C s → nx (τ.set i s)) : S p K (tAsg te (gName i)) τ nx rt := fun W L σ H D r o q1 q2 => h W L σ H _ r o fun v H1 s c e o1 rv => by
  have z := hf s c
  obtain ⟨L', l, r'⟩ := (r.ev e o.pw).set (v := v) (s := s) (by
    cases s with
    | un => exact .inl rfl
    | dat d => exact .inr (.inl ⟨d, rfl, rv⟩)
    | pu => exact .inr (.inr ⟨rfl, rv⟩)
    | own ds => cases z
    | vw ds => cases z) i
  exact q1 W L' _ H1 _ (m s c) (e.ofP o) o1 o1.al (fun _ h => .inl h) (fun a ha => .inl (l a ha)) r'
theorem S.letC {C : Sl → Prop} {i : Nat} (h : E p K te τ C) (hf : ∀ s, C s → flat s = true) (m : ∀ s, C s → S p K u (τ.set i s) nx rt) : S p K (tSeq (tAsg te (gName i)) u) τ nx rt :=
  S.seq (M := fun τ' => ∃ s, C s ∧ τ' = τ.set i s) (S.asg h hf fun s c => ⟨s, c, rfl⟩) fun τ' ⟨s, c, e⟩ => e ▸ m s c
theorem S.let1 {i : Nat} {τ' : List Sl} (h : E1 p K te τ s) (m : S p K u τ' nx rt) (e : τ.set i s = τ' := by rfl) (hf : flat s = true := by rfl) : S p K (tSeq (tAsg te (gName i)) u) τ nx rt :=
  S.letC h (fun x y => y ▸ hf) fun x y => by subst y; rw [e]; exact m
theorem S.asg1 {i : Nat} {τ' : List Sl} (h : E1 p K te τ s) (m : nx τ') (e : τ.set i s = τ' := by rfl) (hf : flat s = true := by rfl) : S p K (tAsg te (gName i)) τ nx rt :=
  S.asg h (fun x y => y ▸ hf) fun x y => by subst y; rw [e]; exact m
theorem Rs.setO (r : Rs p W K H L σ τ) {a : Addr} {vs : List V} {ds : List Dat} (wa : W a) (np : p ≠ some a) (nl : a ∉ L) (h : H a = some (.lst vs)) (z : Dzs (fun a => ¬ W a) K H vs ds) : ∀ (i : Nat), ∃ L', (∀ b, b ∈ L' → b = a ∨ b ∈ L) ∧ Rs p W K H L' (σ.set i (some (.ref a))) (τ.set i (.own ds)) := by
  induction r with
  | nil => intro i; exact ⟨[], fun _ h => .inr h, .nil⟩
  | un r ih =>
    intro i
    match i with
    | 0 => exact ⟨_, fun b hb => by simpa using hb, .own wa np nl h z r⟩
    | i + 1 => obtain ⟨L', h1, h2⟩ := ih nl i; exact ⟨L', h1, .un h2⟩
  | dat y r ih =>
    intro i
    match i with
    | 0 => exact ⟨_, fun b hb => by simpa using hb, .own wa np nl h z r⟩
    | i + 1 => obtain ⟨L', h1, h2⟩ := ih nl i; exact ⟨L', h1, .dat y h2⟩
  | pu y r ih =>
    intro i
    match i with
    | 0 => exact ⟨_, fun b hb => by simpa using hb, .own wa np nl h z r⟩
    | i + 1 => obtain ⟨L', h1, h2⟩ := ih nl i; exact ⟨L', h1, .pu y h2⟩
  | own g1 g2 g3 g4 g5 r ih =>
    intro i
    have nl' := fun y => nl (List.mem_cons_of_mem _ y)
    match i with
    | 0 => exact ⟨_, fun b hb => (List.mem_cons.mp hb).imp id (List.mem_cons_of_mem _), .own wa np nl' h z r⟩
    | i + 1 =>
      obtain ⟨L', h1, h2⟩ := ih nl' i
      refine ⟨_ :: L', fun b hb => ?_, .own g1 g2 (fun y => ?_) g4 g5 h2⟩
      · rcases List.mem_cons.mp hb with rfl | hb
        · exact .inr List.mem_cons_self
        · exact (h1 b hb).imp id (List.mem_cons_of_mem _)
      · rcases h1 _ y with y | y
        · exact nl (y ▸ List.mem_cons_self)
        · exact g3 y
theorem Rs.own_in (r : Rs p W K H L σ τ) : ∀ a, a ∈ L → ∃ vs, H a = some (.lst vs) := by
  induction r with
  | nil => intro a h; cases h
  | un _ ih => exact ih
  | dat _ _ ih => exact ih
  | pu _ _ ih => exact ih
  | own _ _ _ h4 _ _ ih => intro a h; rcases List.mem_cons.mp h with rfl | h
                           · exact ⟨_, h4⟩
                           · exact ih a h
theorem Dzs.old {W W' : Addr → Prop} {H H' : Hp} (e : Ev W H H') (n : ∀ a, W' a → W a ∨ H a = none) : ∀ {vs : List V} {ds : List Dat}, Dzs (fun a => ¬ W a) K H vs ds → Dzs (fun a => ¬ W' a) K H' vs ds
    | _, _, .nil => .nil
    | _, _, .cons h r => .cons (go1 h) (Dzs.old e n r)
where
  go1 : ∀ {v : V} {d : Dat}, Dz (fun a => ¬ W a) K H v d → Dz (fun a => ¬ W' a) K H' v d
    | _, _, .none => .none
    | _, _, .bool b => .bool b
    | _, _, .int i => .int i
    | _, _, .str x => .str x
    | _, _, .tup h r => .tup (e.tm _ _ _ h) (Dzs.old e n r)
    | _, _, .lst h r => .lst (by
        rcases h with ⟨nn, h⟩ | h
        · refine .inl ⟨fun z => ?_, ?_⟩
          · have e1 := (n _ z).resolve_left nn
            rcases h with h | ⟨o, h⟩
            · rw [e1] at h; cases h
            · rw [e1] at h; cases h
          · exact h.imp (e.keep _ _ nn) fun ⟨o, h⟩ => ⟨o, e.keep _ _ nn h⟩
        · exact .inr h) (Dzs.old e n r)
theorem Rs.chg (r : Rs p W K H L σ τ) {a : Addr} {vs0 vs : List V} (ha : W a) (h0 : H a = some (.lst vs0)) : a ∉ L → Rs p W K (upd H a (.lst vs)) L σ τ := by
  have ev : Ev (fun b => b = a) H (upd H a (.lst vs)) := ⟨fun b o n h => by rw [upd_ne n]; exact h, Tm.lst h0 _⟩
  have nw : ∀ b, ¬ W b → ¬ b = a := fun b n z => n (z ▸ ha)
  induction r with
  | nil => intro _; exact .nil
  | un _ ih => intro h; exact .un (ih h)
  | dat h _ ih => intro n; exact .dat (h.ev ev nw) (ih n)
  | pu h _ ih => intro n; exact .pu h (ih n)
  | own h1 h2 h3 h4 h5 _ ih =>
    intro n
    refine .own h1 h2 h3 ?_ (h5.ev ev nw) (ih fun z => n (List.mem_cons_of_mem _ z))
    rw [upd_ne (fun z => n (by rw [← z]; exact List.mem_cons_self))]; exact h4
theorem Rs.chgO {a : Addr} {vs0 vs : List V} {ds : List Dat} (ha : W a) (h0 : H a = some (.lst vs0)) (hz : Dzs (fun a => ¬ W a) K (upd H a (.lst vs)) vs ds) : ∀ {L : List Addr} {σ : St} {τ : List Sl}, Rs p W K H L σ τ → ∀ {i : Nat} {ds0 : List Dat}, τ[i]? = some (.own ds0) → σ[i]? = some (some (.ref a)) → Rs p W K (upd H a (.lst vs)) L σ (τ.set i (.own ds)) := by
  have ev : Ev (fun b => b = a) H (upd H a (.lst vs)) := ⟨fun b o n h => by rw [upd_ne n]; exact h, Tm.lst h0 _⟩
  have nw : ∀ b, ¬ W b → ¬ b = a := fun b n z => n (z ▸ ha)
  intro L σ τ r
  induction r with
  | nil => intro i ds0 h; simp at h
  | un r ih =>
    intro i ds0 h e
    match i, h, e with
    | 0, h, _ => simp at h
    | i + 1, h, e => exact .un (ih (i := i) (by simpa using h) (by simpa using e))
  | dat y r ih =>
    intro i ds0 h e
    match i, h, e with
    | 0, h, _ => simp at h
    | i + 1, h, e => exact .dat (y.ev ev nw) (ih (i := i) (by simpa using h) (by simpa using e))
  | pu y r ih =>
    intro i ds0 h e
    match i, h, e with
    | 0, h, _ => simp at h
    | i + 1, h, e => exact .pu y (ih (i := i) (by simpa using h) (by simpa using e))
  | own h1 h2 h3 h4 h5 r ih =>
    intro i ds0 h e
    match i, h, e with
    | 0, h, e =>
      simp at e; subst e
      exact .own h1 h2 h3 upd_same hz (r.chg h1 h4 h3)
    | i + 1, h, e =>
      have e' : _ := e
      simp only [List.getElem?_cons_succ] at e'
      obtain ⟨a', vs', g1, g2, g3, g4, g5, g6⟩ := r.get_own (i := i) (by simpa using h)
      rw [e'] at g1; cases g1
      refine .own h1 h2 h3 ?_ (h5.ev ev nw) (ih (i := i) (by simpa using h) e')
      rw [upd_ne (fun z => h3 (by rw [z]; exact g4))]; exact h4
end
end D
end

section
set_option Elab.async false
set_option linter.all false
set_option maxRecDepth 100000
set_option maxHeartbeats 4000000
namespace D
open PySem L2 K0
open PySem.W (Dat)
noncomputable def Jd (W : Addr → Prop) (K : PySem.W.Frag) (J : It) (H : Hp) (ds : List Dat) : Prop := ∀ (W' : Addr → Prop) (H' : Hp), Ev W H H' → (∀ a, W' a → W a ∨ H a = none) → J.stop ds.length H' ∧ ∀ i d, ds[i]? = some d → J.go i H' ∧ ∀ y H2, J.yld i H' y H2 → Same H' H2 ∧ Dz (fun a => ¬ W' a) K H2 y d
section
variable (p : Option Addr) (K : PySem.W.Frag)
noncomputable def Wk (wi : TI) (τ : List Sl) (ds : List Dat) : Prop := ∀ (W : Addr → Prop) (L : List Addr) (σ : St) (H : Hp) (R : It → Hp → Prop), Rs p W K H L σ τ → Ok p W H → (∀ J H1, Ev (Pp p) H H1 → Ok p W H1 → Jd W K J H1 ds → R J H1) → wi σ H R
noncomputable def Gd (g : TG) (d : Dat) (τ τ' : List Sl) : Prop := ∀ (W : Addr → Prop) (L : List Addr) (σ : St) (H : Hp) (v : V) (Q : St → Hp → Prop), Rs p W K H L σ τ → Dz (fun a => ¬ W a) K H v d → (∀ L' σ', (∀ a, a ∈ L' → a ∈ L) → Rs p W K H L' σ' τ' → Q σ' H) → g v σ H Q
end
section
variable {p : Option Addr} {K : PySem.W.Frag} {W : Addr → Prop} {L : List Addr} {σ : St} {H H0 H1 H2 : Hp} {τ τ' : List Sl} {ta tb te : TE} {tas : TA} {v : V} {s : Sl} {nx : List Sl → Prop} {rt : Sl → Prop} {t u : TS} {ds : List Dat} {wi : TI}
theorem Wk.tup (h : E1 p K te τ (.dat (.tuple ds))) : Wk p K (iTup K te) τ ds := fun W L σ H R r o q => h W L σ H _ r o fun v H1 s e e1 o1 rv => by
  subst e
  cases rv with
  | tup h1 h2 =>
    rename_i a xs
    refine ⟨a, rfl, ⟨xs, h1⟩, q _ H1 e1 o1 fun W' H' ev n => ?_⟩
    have h1' := ev.tm _ _ _ h1
    have h2' := Dzs.old ev n h2
    refine ⟨⟨xs, h1', by rw [h2.len]; exact Nat.le_refl _⟩, fun i d hd => ?_⟩
    obtain ⟨x, ex, zx⟩ := h2'.get hd
    exact ⟨⟨xs, x, h1', ex⟩, fun y H2 ⟨e, q⟩ => by
      subst e
      have := q xs h1'
      rw [ex] at this; cases this
      exact ⟨Same.refl _, zx⟩⟩
theorem Wk.lst (h : E1 p K te τ (.dat (.list ds))) : Wk p K (iList K te) τ ds := fun W L σ H R r o q => h W L σ H _ r o fun v H1 s e e1 o1 rv => by
  subst e
  cases rv with
  | lst h1 h2 =>
    rename_i a xs
    refine ⟨a, rfl, ⟨xs, h1.sq⟩, q _ H1 e1 o1 fun W' H' ev n => ?_⟩
    have h1' : SqL K H' a xs := by
      rcases h1 with ⟨nn, h1⟩ | h1
      · exact .inl (h1.imp (ev.keep _ _ nn) fun ⟨o, h⟩ => ⟨o, ev.keep _ _ nn h⟩)
      · exact SqN.sq (N := fun _ => True) (.inr h1)
    have h2' := Dzs.old ev n h2
    refine ⟨⟨xs, h1', by rw [h2.len]; exact Nat.le_refl _⟩, fun i d hd => ?_⟩
    obtain ⟨x, ex, zx⟩ := h2'.get hd
    exact ⟨⟨xs, x, h1', ex⟩, fun y H2 ⟨e, q⟩ => by
      subst e
      have := q xs h1'
      rw [ex] at this; cases this
      exact ⟨Same.refl _, zx⟩⟩
noncomputable def rangeD (lo : Int) (n : Nat) : List Dat := (List.range n).map fun (i : Nat) => .int (lo + i)
theorem rangeD_get {lo : Int} {n i : Nat} {d : Dat} (h : (rangeD lo n)[i]? = some d) : i < n ∧ d = .int (lo + i) := by
  unfold rangeD at h
  rw [List.getElem?_map] at h
  cases e : (List.range n)[i]? with
  | none => rw [e] at h; cases h
  | some j =>
    rw [e] at h; cases h
    have hi : i < n := by simpa using (List.getElem?_eq_some_iff.mp e).1
    have hj : j = i := by
      have := (List.getElem?_eq_some_iff.mp e).2
      simpa using this.symm
    subst hj
    exact ⟨hi, rfl⟩
theorem rangeD_len {lo : Int} {n : Nat} : (rangeD lo n).length = n := by unfold rangeD; simp
theorem jd_rng {lo : Int} {n : Nat} : Jd W K (Itr lo n) H (rangeD lo n) := fun W' H' ev nn => ⟨by show n ≤ _; rw [rangeD_len]; exact Nat.le_refl _, fun i d hd => by
  obtain ⟨hi, rfl⟩ := rangeD_get hd
  exact ⟨hi, fun y H2 ⟨e1, e2⟩ => by subst e1 e2; exact ⟨Same.refl _, .int _⟩⟩⟩
theorem Wk.rng {j : Int} {n : Nat} (h : A1 p K tas τ [.dat (.int j)]) (hn : j.toNat = n) (h1 : -(2 ^ 62) ≤ j := by decide) (h2 : j < 2 ^ 62 := by decide) : Wk p K (iRng1 tas) τ (rangeD 0 n) := fun W L σ H R r o q => h W L σ H _ r o fun vs H1 ss e e1 o1 rv => by
  subst e hn
  cases rv with
  | cons a t =>
    cases t
    cases a.int_inv
    exact ⟨j, rfl, h1, h2, q _ H1 e1 o1 jd_rng⟩
noncomputable def zipD : List Dat → List Dat → List Dat := List.zipWith fun x y => .tuple [x, y]
theorem zipD_get : ∀ {xs ys : List Dat} {i : Nat} {d : Dat}, (zipD xs ys)[i]? = some d → ∃ x y, xs[i]? = some x ∧ ys[i]? = some y ∧ d = .tuple [x, y] := by
  intro xs ys i d h
  unfold zipD at h
  rw [List.getElem?_zipWith] at h
  cases e1 : xs[i]? with
  | none => rw [e1] at h; simp at h
  | some x =>
    cases e2 : ys[i]? with
    | none => rw [e1, e2] at h; simp at h
    | some y => rw [e1, e2] at h; simp at h; exact ⟨x, y, rfl, rfl, h.symm⟩
theorem Wk.zip {xs ys : List Dat} (h : A1 p K tas τ [.dat (.tuple xs), .dat (.tuple ys)]) (hl : ys.length = xs.length) : Wk p K (iZip K tas) τ (zipD xs ys) := fun W L σ H R r o q => h W L σ H _ r o fun vs H1 ss e e1 o1 rv => by
  subst e
  cases rv with
  | cons a t =>
    cases t with
    | cons b t =>
      cases t
      cases a with
      | tup h1 h2 =>
        cases b with
        | tup h3 h4 =>
          rename_i a1 x1 a2 x2
          refine ⟨a1, a2, rfl, ⟨_, h1⟩, ⟨_, h3⟩, q _ H1 e1 o1 fun W' H' ev n => ?_⟩
          have g1 := ev.tm _ _ _ h1
          have g3 := ev.tm _ _ _ h3
          have g2 := Dzs.old ev n h2
          have g4 := Dzs.old ev n h4
          have ll : (zipD xs ys).length = xs.length := by unfold zipD; rw [List.length_zipWith, hl, Nat.min_self]
          refine ⟨⟨_, g1, by rw [g2.len, ll]; exact Nat.le_refl _, _, g3⟩, fun i d hd => ?_⟩
          obtain ⟨x, y, ex, ey, rfl⟩ := zipD_get hd
          obtain ⟨vx, ux, zx⟩ := g2.get ex
          obtain ⟨vy, uy, zy⟩ := g4.get ey
          refine ⟨⟨_, _, vx, vy, g1, g3, ux, uy⟩, fun z H2 ⟨a, ha, e, q⟩ => ?_⟩
          have := q _ _ _ _ g1 g3 ux uy
          subst this e
          have s := Same.new ha (.tup [vx, vy])
          have e : Ev (fun _ => False) H' (upd H' a (.tup [vx, vy])) := Ev.of s
          exact ⟨s, .tup (SqT.of upd_same) (.cons (zx.ev e fun _ _ h => h) (.cons (zy.ev e fun _ _ h => h) .nil))⟩
theorem Gd.name {i : Nat} {d : Dat} (e : τ.set i (.dat d) = τ' := by rfl) : Gd p K (gName i) d τ τ' := fun W L σ H v Q r z q => by
  obtain ⟨L', l, r'⟩ := r.set (v := v) (s := .dat d) (.inr (.inl ⟨d, rfl, z⟩)) i
  rw [e] at r'
  exact q L' _ l r'
theorem Gd.tri {i j k : Nat} {x y z : Dat} (e : ((τ.set i (.dat x)).set j (.dat y)).set k (.dat z) = τ' := by rfl) : Gd p K (gTup K 3 (gCons (gName i) (gCons (gName j) (gCons (gName k) gNil)))) (.tuple [x, y, z]) τ τ' := fun W L σ H v Q r zz q => by
  cases zz with
  | tup h1 h2 =>
    cases h2 with
    | cons za t =>
      cases t with
      | cons zb t =>
        cases t with
        | cons zc t =>
          cases t
          obtain ⟨L1, l1, r1⟩ := r.set (s := .dat x) (.inr (.inl ⟨x, rfl, za⟩)) i
          obtain ⟨L2, l2, r2⟩ := r1.set (s := .dat y) (.inr (.inl ⟨y, rfl, zb⟩)) j
          obtain ⟨L3, l3, r3⟩ := r2.set (s := .dat z) (.inr (.inl ⟨z, rfl, zc⟩)) k
          rw [e] at r3
          exact ⟨_, _, rfl, h1, rfl, _, _, rfl, _, _, rfl, _, _, rfl, rfl, q L3 _ (fun a h => l1 a (l2 a (l3 a h))) r3⟩
theorem S.asgG {g : TG} {d : Dat} (h : E1 p K te τ (.dat d)) (hg : Gd p K g d τ τ') (m : nx τ') : S p K (tAsg te g) τ nx rt := fun W L σ H D r o q1 q2 => h W L σ H _ r o fun v H1 s e e1 o1 rv => by
  subst e
  exact hg W L σ H1 v _ (r.ev e1 o.pw) rv fun L' σ' l r' => q1 W L' σ' H1 _ m (e1.ofP o) o1 o1.al (fun _ h => .inl h) (fun a h => .inl (l a h)) r'
theorem S.letG {g : TG} {d : Dat} (h : E1 p K te τ (.dat d)) (hg : Gd p K g d τ τ') (m : S p K u τ' nx rt) : S p K (tSeq (tAsg te g) u) τ nx rt := S.seq (M := fun x => τ' = x) (S.asgG h hg rfl) fun x e => e ▸ m
theorem S.for {g : TG} {tb : TS} (hw : Wk p K wi τ ds) (I : Nat → List Sl → Prop) (h0 : I 0 τ) (turn : ∀ i d τ1, ds[i]? = some d → I i τ1 → ∃ τ2, Gd p K g d τ1 τ2 ∧ S p K tb τ2 (I (i + 1)) rt) (done : ∀ τ1, I ds.length τ1 → nx τ1) : S p K (tFor wi g tb) τ nx rt := fun W L σ H D r o q1 q2 => by
  refine hw W L σ H _ r o fun J H1 e1 o1 jd => ?_
  have ew := e1.ofP o
  have hn : ∀ a, H1 a = none → H a = none := fun a ha => ew.none o1.al ha
  refine ⟨fun i m σ' H' => m = ds.length - i ∧ i ≤ ds.length ∧ ∃ (W' : Addr → Prop) (L' : List Addr) (τ1 : List Sl), I i τ1 ∧ Ev W H1 H' ∧ Ok p W' H' ∧ (∀ a, W a → ∃ ys, H' a = some (.lst ys)) ∧ (∀ a, W' a → W a ∨ H1 a = none) ∧ (∀ a, a ∈ L' → a ∈ L ∨ H1 a = none) ∧ Rs p W' K H' L' σ' τ1,
    ⟨ds.length, by omega, Nat.zero_le _, W, L, τ, h0, Ev.refl, o1, o1.al, fun _ h => .inl h, fun _ h => .inl h, r.ev e1 o.pw⟩, ?_⟩
  rintro i m σ' H' ⟨rfl, hi, W', L', τ1, hI, ev, ok, al, nn, ll, rs⟩
  obtain ⟨stop, each⟩ := jd W' H' ev nn
  by_cases hlt : i < ds.length
  · have hd : ds[i]? = some ds[i] := by simp [hlt]
    obtain ⟨go, yl⟩ := each i _ hd
    obtain ⟨τ2, hg, hb⟩ := turn i _ τ1 hd hI
    refine .inr ⟨go, fun σ'' H'' => ds.length - (i + 1) = ds.length - (i + 1) ∧ i + 1 ≤ ds.length ∧ ∃ (W' : Addr → Prop) (L' : List Addr) (τ1 : List Sl), I (i + 1) τ1 ∧ Ev W H1 H'' ∧ Ok p W' H'' ∧ (∀ a, W a → ∃ ys, H'' a = some (.lst ys)) ∧ (∀ a, W' a → W a ∨ H1 a = none) ∧ (∀ a, a ∈ L' → a ∈ L ∨ H1 a = none) ∧ Rs p W' K H'' L' σ'' τ1, fun σ'' H'' h => ⟨_, by omega, h⟩, fun x H2 y => ?_⟩
    obtain ⟨s2, z2⟩ := yl x H2 y
    have e2 : Ev (Pp p) H' H2 := Ev.of s2
    have o2 := ok.same s2
    have ev2 : Ev W H1 H2 := ev.trans (Ev.of s2)
    have al2 : ∀ a, W a → ∃ ys, H2 a = some (.lst ys) := fun a ha => let ⟨ys, h⟩ := al a ha; ⟨ys, s2 _ _ h⟩
    have hn2 : ∀ a, H2 a = none → H1 a = none := fun a ha => ev2.none al2 ha
    refine hg W' L' σ' H2 x _ (rs.ev e2 ok.pw) z2 fun L3 σ3 l3 rs3 => ?_
    refine hb W' L3 σ3 H2 _ rs3 o2 (fun W4 L4 σ4 H4 τ4 c e4 o4 w4 n4 l4 r4 => ?_) (fun W4 H4 v s c e4 o4 w4 n4 rv => ?_)
    · exact ⟨rfl, hlt, W4, L4, τ4, c, ev2.chain e4 nn, o4, al_chain al2 w4 e4, fun a ha => (n4 a ha).elim (nn a) fun z => .inr (hn2 a z), fun a ha => (l4 a ha).elim (fun z => ll a (l3 a z)) fun z => .inr (hn2 a z), r4⟩
    · have nn' : ∀ a, W' a → W a ∨ H a = none := fun a ha => (nn a ha).imp id (hn a)
      refine q2 W4 H4 v s c ((ew.trans ev2).chain e4 nn') o4 (al_chain al2 w4 e4) (fun a ha => (n4 a ha).elim (nn' a) fun z => .inr (hn a (hn2 a z))) (rv.base (fun a z => hn a (hn2 a z)) fun a ha => ?_)
      exact (ll a (l3 a ha)).imp id (hn a)
  · have e : i = ds.length := by omega
    subst e
    exact .inl ⟨stop, q1 W' L' σ' H' τ1 (done τ1 hI) (ew.trans ev) ok al (fun a ha => (nn a ha).imp id (hn a)) (fun a ha => (ll a ha).imp id (hn a)) rs⟩
theorem S.while {tc : TT} {tb : TS} (I : Nat → List Sl → Prop) {m0 : Nat} (h0 : I m0 τ) (turn : ∀ m τ1, I m τ1 → ∃ C : Bool → Prop, T p K tc τ1 C ∧ (C true → S p K tb τ1 (fun τ2 => ∃ m', m' < m ∧ I m' τ2) rt) ∧ (C false → nx τ1)) : S p K (tWhile tc tb) τ nx rt := fun W L σ H D r o q1 q2 => by
  refine ⟨fun m σ' H' => ∃ (W' : Addr → Prop) (L' : List Addr) (τ1 : List Sl), I m τ1 ∧ Ev W H H' ∧ Ok p W' H' ∧ (∀ a, W a → ∃ ys, H' a = some (.lst ys)) ∧ (∀ a, W' a → W a ∨ H a = none) ∧ (∀ a, a ∈ L' → a ∈ L ∨ H a = none) ∧ Rs p W' K H' L' σ' τ1,
    ⟨m0, W, L, τ, h0, Ev.refl, o, o.al, fun _ h => .inl h, fun _ h => .inl h, r⟩, ?_⟩
  rintro m σ' H' ⟨W', L', τ1, hI, ev, ok, al, nn, ll, rs⟩
  obtain ⟨C, ht, hb, hx⟩ := turn m τ1 hI
  refine ht W' L' σ' H' _ rs ok fun b H2 c e2 o2 => ?_
  have e2w := e2.ofP ok
  have hn0 : ∀ a, H2 a = none → H' a = none := fun a ha => e2w.none o2.al ha
  have ev2 : Ev W H H2 := ev.chain e2w nn
  have al2 : ∀ a, W a → ∃ ys, H2 a = some (.lst ys) := al_chain al o2.al e2w
  have hn2 : ∀ a, H2 a = none → H a = none := fun a ha => ev2.none al2 ha
  have rs2 := rs.ev e2 ok.pw
  cases b with
  | false => rw [if_neg (by decide)]; exact q1 W' L' σ' H2 τ1 (hx c) ev2 o2 al2 nn ll rs2
  | true =>
    rw [if_pos rfl]
    refine ⟨fun σ4 H4 => ∃ m', m' < m ∧ ∃ (W' : Addr → Prop) (L' : List Addr) (τ1 : List Sl), I m' τ1 ∧ Ev W H H4 ∧ Ok p W' H4 ∧ (∀ a, W a → ∃ ys, H4 a = some (.lst ys)) ∧ (∀ a, W' a → W a ∨ H a = none) ∧ (∀ a, a ∈ L' → a ∈ L ∨ H a = none) ∧ Rs p W' K H4 L' σ4 τ1, fun σ4 H4 h => h, ?_⟩
    refine hb c W' L' σ' H2 _ rs2 o2 (fun W4 L4 σ4 H4 τ4 c e4 o4 w4 n4 l4 r4 => ?_) (fun W4 H4 v s c e4 o4 w4 n4 rv => ?_)
    · obtain ⟨m', hm, hI'⟩ := c
      exact ⟨m', hm, W4, L4, τ4, hI', ev2.chain e4 nn, o4, al_chain al2 w4 e4, fun a ha => (n4 a ha).elim (nn a) fun z => .inr (hn2 a z), fun a ha => (l4 a ha).elim (ll a) fun z => .inr (hn2 a z), r4⟩
    · exact q2 W4 H4 v s c (ev2.chain e4 nn) o4 (al_chain al2 w4 e4) (fun a ha => (n4 a ha).elim (nn a) fun z => .inr (hn2 a z)) (rv.base hn2 ll)
end
end D
end

section
set_option Elab.async false
set_option linter.all false
set_option maxRecDepth 100000
set_option maxHeartbeats 4000000
namespace D
open PySem L2 K0
open PySem.W (Dat)
section
variable {p : Option Addr} {K : PySem.W.Frag} {W : Addr → Prop} {L : List Addr} {σ : St} {H H0 H1 H2 : Hp} {τ τ' : List Sl} {ta tb te : TE} {tas : TA} {v : V} {s : Sl} {nx : List Sl → Prop} {rt : Sl → Prop} {t u : TS} {ds : List Dat} {wi : TI} {tt : TT}
noncomputable def Gc (p : Option Addr) (K : PySem.W.Frag) (no : Nat) (g : TG) (d : Dat) (own : List Sl) : Prop := ∀ (W : Addr → Prop) (L : List Addr) (ρ σ : St) (τ : List Sl) (H : Hp) (v : V) (Q : St → Hp → Prop), ρ.length = no → Rs p W K H L σ τ → Dz (fun a => ¬ W a) K H v d → (∀ ρ', ρ'.length = no → Rs p W K H L (ρ' ++ σ) (own ++ τ) → Q (ρ' ++ σ) H) → g v (ρ ++ σ) H Q
theorem Gc.name {d : Dat} : Gc p K 1 (gName 0) d [.dat d] := fun W L ρ σ τ H v Q l r z q => by
  match ρ, l with
  | [o], _ => exact q [some v] rfl (.dat z r)
theorem Gc.pair {x y : Dat} : Gc p K 2 (gPair K) (.tuple [x, y]) [.dat x, .dat y] := fun W L ρ σ τ H v Q l r z q => by
  match ρ, l with
  | [o, o'], _ =>
    cases z with
    | tup h1 h2 =>
      cases h2 with
      | cons za t =>
        cases t with
        | cons zb t =>
          cases t
          exact ⟨_, _, rfl, h1, rfl, _, _, rfl, _, _, rfl, rfl, q [some _, some _] rfl (.dat za (.dat zb r))⟩
theorem Rs.evx {X : Addr → Prop} {H' : Hp} (r : Rs p W K H L σ τ) (e : Ev X H H') (nx : ∀ a, ¬ W a → ¬ X a) (no : ∀ a o, H a = some o → p ≠ some a → ¬ X a) : Rs p W K H' L σ τ := by
  induction r with
  | nil => exact .nil
  | un _ ih => exact .un ih
  | dat h _ ih => exact .dat (h.ev e nx) ih
  | pu h _ ih => exact .pu h ih
  | own h1 h2 h3 h4 h5 _ ih => exact .own h1 h2 h3 (e.keep _ _ (no _ _ h4 h2) h4) (h5.ev e nx) ih
theorem E.comp {no : Nat} {g : TG} (hw : Wk p K wi τ ds) (own : Dat → List Sl) (hg : ∀ d, d ∈ ds → Gc p K no g d (own d)) (kp : Dat → Bool) (Cd : Dat → Dat → Prop) (ht : ∀ d, d ∈ ds → T1 p K tt (own d ++ τ) (kp d))
    (turn : ∀ d, d ∈ ds → kp d = true → E p K te (own d ++ τ) (fun s => ∃ e, s = .dat e ∧ Cd d e)) (hz : ds.length ≤ sizeLine) :
    E p K (tCompB no wi g tt te) τ (fun s => ∃ es, s = .own es ∧ es.length = (ds.filter kp).length ∧ ∀ (i : Nat) (e : Dat), es[i]? = some e → ∃ d, (ds.filter kp)[i]? = some d ∧ Cd d e) := fun W L σ H Q r o q => by
  refine hw W L σ H _ r o fun J H1 e1 o1 jd => ?_
  intro D hD
  have nD := o1.fresh hD
  have pD := o1.np hD
  have r1 := r.ev e1 o.pw
  have r1' : Rs p (fun b => W b ∨ b = D) K H1 L σ τ := r1.wide (fun _ h => .inl h) fun b hb nb => (hb.resolve_left nb) ▸ hD
  refine ⟨fun i m σ' H' => m = ds.length - i ∧ i ≤ ds.length ∧ (∃ ρ, ρ.length = no ∧ σ' = ρ ++ σ) ∧ Ev (fun a => Pp p a ∨ a = D) H1 H' ∧ (∀ q, p = some q → Pu H' q) ∧ ∃ (vs : List V) (es : List Dat), H' D = some (.lst vs) ∧ Dzs (fun b => ¬ (W b ∨ b = D)) K H' vs es ∧ es.length = ((ds.take i).filter kp).length ∧ ∀ (j : Nat) (e : Dat), es[j]? = some e → ∃ d, ((ds.take i).filter kp)[j]? = some d ∧ Cd d e,
    ⟨ds.length, by omega, Nat.zero_le _, ⟨List.replicate no none, by simp, rfl⟩, ⟨fun b u nb h => by rw [upd_ne (fun z => nb (.inr z))]; exact h, (Same.new hD _).tm⟩, fun q hq => (o1.pu q hq).1.same (Same.new hD _), [], [], upd_same, .nil, by simp, fun j e h => by simp at h⟩, ?_⟩
  rintro i m σ' H' ⟨rfl, hi, ⟨ρ, lρ, rfl⟩, ev, pu, vs, es, hv, zv, le, hes⟩
  have evW : Ev W H1 H' := ⟨fun b u nb h => ev.keep b u (fun z => z.elim (fun y => nb (o1.pw b y)) fun y => by rw [y] at h; rw [hD] at h; cases h) h, ev.tm⟩
  have ok' : Ok p (fun b => W b ∨ b = D) H' := ⟨fun q hq => ⟨pu q hq, .inl (o1.pw q hq)⟩, fun b hb => by
    by_cases z : b = D
    · subst z; exact ⟨_, hv⟩
    · by_cases y : p = some b
      · obtain ⟨x1, x2, h⟩ := pu b y; exact ⟨_, h⟩
      · obtain ⟨ys, h⟩ := o1.al b (hb.resolve_right z)
        exact ⟨ys, ev.keep _ _ (fun w => w.elim y z) h⟩⟩
  have evD : Ev (fun b => W b ∨ b = D) H1 H' := evW.mono fun _ h => .inl h
  have rs' : Rs p (fun b => W b ∨ b = D) K H' L σ τ := by
    refine Rs.evx r1' ev (fun a ha z => ?_) fun a u ha np z => ?_
    · rcases z with z | z
      · exact ha (.inl (o1.pw a z))
      · exact ha (.inr z)
    · rcases z with z | z
      · exact np z
      · rw [z, hD] at ha; cases ha
  obtain ⟨stop, each⟩ := jd (fun b => W b ∨ b = D) H' evW fun a ha => ha.imp id fun z => by rw [z]; exact hD
  have o1f : H D = none := o1.back e1 hD
  by_cases hlt : i < ds.length
  · have hd : ds[i]? = some ds[i] := by simp [hlt]
    have hm : ds[i] ∈ ds := List.getElem_mem hlt
    obtain ⟨go, yl⟩ := each i _ hd
    have tk : ds.take (i + 1) = ds.take i ++ [ds[i]] := by rw [List.take_add_one]; simp [hlt]
    refine .inr ⟨go, fun x H2 y => ?_⟩
    obtain ⟨s2, z2⟩ := yl x H2 y
    have ok2 := ok'.same s2
    refine hg _ hm _ L ρ σ τ H2 x _ lρ (rs'.ev (Ev.of s2) ok'.pw) z2 fun ρ' lρ' rs2 => ?_
    refine ht _ hm _ L _ H2 _ rs2 ok2 fun b H4 eb e4 o4 => ?_
    have pvH : Ev (fun a => Pp p a ∨ a = D) H' H4 := (Ev.of s2).trans (e4.mono fun _ h => .inl h)
    have hv4 : H4 D = some (.lst vs) := e4.keep _ _ pD (s2 _ _ hv)
    have zv4 : Dzs (fun b => ¬ (W b ∨ b = D)) K H4 vs es := (zv.ev (W := fun _ => False) (Ev.of s2) fun _ _ h => h).ev e4 fun a ha z => ha (.inl (o1.pw a z))
    subst eb
    by_cases hk : kp ds[i] = true
    · rw [if_pos hk]
      refine turn _ hm hk _ L _ H4 _ (rs2.ev e4 ok2.pw) o4 fun v H5 s c e5 o5 rv => ?_
      obtain ⟨e, rfl, ce⟩ := c
      have hv5 : H5 D = some (.lst vs) := e5.keep _ _ pD hv4
      have zv5 := zv4.ev e5 fun a ha z => ha (.inl (o1.pw a z))
      have ll : vs.length ≤ i := by rw [zv.len, le]; exact Nat.le_trans (List.length_filter_le _ _) (by rw [List.length_take]; omega)
      have evu : Ev (fun b => b = D) H5 (upd H5 D (.lst (vs ++ [v]))) := ⟨fun b o n h => by rw [upd_ne n]; exact h, Tm.lst hv5 _⟩
      refine ⟨vs, hv5, by omega, ds.length - (i + 1), by omega, rfl, hlt, ⟨ρ', lρ', rfl⟩, (ev.trans (pvH.trans (e5.mono fun _ h => .inl h))).trans (evu.mono fun _ h => .inr h), fun q hq => ?_, vs ++ [v], es ++ [e], upd_same, (zv5.app (.cons rv .nil)).ev evu fun b hb z => hb (.inr z), ?_, fun j f hj => ?_⟩
      · obtain ⟨x1, x2, h⟩ := (o5.pu q hq).1
        exact ⟨x1, x2, by rw [upd_ne (fun z => pD (by rw [← z]; exact hq))]; exact h⟩
      · rw [tk, List.filter_append, List.length_append, List.length_append, le]; simp [hk]
      · rw [tk, List.filter_append]
        have h1 : [ds[i]].filter kp = [ds[i]] := by simp [hk]
        rw [h1]
        by_cases hj2 : j < es.length
        · rw [List.getElem?_append_left hj2] at hj
          rw [List.getElem?_append_left (by rw [← le]; exact hj2)]
          exact hes j f hj
        · rw [List.getElem?_append_right (by omega)] at hj
          have ej : j - es.length = 0 := by
            have := (List.getElem?_eq_some_iff.mp hj).1
            simp at this; omega
          rw [ej] at hj
          cases hj
          rw [List.getElem?_append_right (by omega), ← le, ej]
          exact ⟨_, rfl, ce⟩
    · rw [if_neg hk]
      refine ⟨ds.length - (i + 1), by omega, rfl, hlt, ⟨ρ', lρ', rfl⟩, ev.trans pvH, fun q hq => (o4.pu q hq).1, vs, es, hv4, zv4, ?_, fun j f hj => ?_⟩
      · rw [tk, List.filter_append, List.length_append, le]; simp [hk]
      · obtain ⟨d, h1, h2⟩ := hes j f hj
        rw [tk, List.filter_append]
        have h3 : [ds[i]].filter kp = [] := by simp [hk]
        rw [h3, List.append_nil]
        exact ⟨d, h1, h2⟩
  · have e : i = ds.length := by omega
    subst e
    rw [List.take_length] at le hes
    have evP : Ev (Pp p) H1 H' := ⟨fun b u nb h => ev.keep b u (fun z => z.elim nb fun y => by rw [y] at h; rw [hD] at h; cases h) h, ev.tm⟩
    refine .inl ⟨stop, q _ H' _ ⟨es, rfl, le, hes⟩ (e1.trans evP) (o1.ev evP pu) ⟨D, vs, rfl, o1f, hv, zv.mono fun a ha z => ha (.inl z)⟩⟩
end
end D
end

section
set_option Elab.async false
set_option linter.all false
set_option maxRecDepth 100000
set_option maxHeartbeats 4000000
namespace D
open PySem L2 K0
open PySem.W (Dat)
section
variable {p : Option Addr} {K : PySem.W.Frag} {W : Addr → Prop} {L : List Addr} {σ : St} {H H0 H1 H2 : Hp} {τ τ' : List Sl} {ta tb te : TE} {tas : TA} {v : V} {s : Sl} {nx : List Sl → Prop} {rt : Sl → Prop} {t u : TS} {ds : List Dat} {wi : TI} {tt : TT}
theorem T1.all : T1 p K tAll τ true := fun W L σ H Q r o q => q true H rfl Ev.refl o
theorem filter_true (ds : List Dat) : ds.filter (fun _ => true) = ds := List.filter_eq_self.mpr fun _ _ => rfl
theorem E.compC {Cd : Dat → Dat → Prop} (hw : Wk p K wi τ ds) (turn : ∀ d, d ∈ ds → E p K te (.dat d :: τ) (fun s => ∃ e, s = .dat e ∧ Cd d e)) (hz : ds.length ≤ sizeLine) :
    E p K (tCompB 1 wi (gName 0) tAll te) τ (fun s => ∃ es, s = .own es ∧ es.length = ds.length ∧ ∀ (i : Nat) (e : Dat), es[i]? = some e → ∃ d, ds[i]? = some d ∧ Cd d e) := by
  have h := E.comp (tt := tAll) hw (fun d => [.dat d]) (fun d _ => Gc.name) (fun _ => true) Cd (fun _ _ => T1.all) (fun d hd _ => turn d hd) hz
  rw [filter_true] at h
  exact h
theorem map_of {f : Dat → Dat} {es : List Dat} (l : es.length = ds.length) (h : ∀ (i : Nat) (e : Dat), es[i]? = some e → ∃ d, ds[i]? = some d ∧ f d = e) : es = ds.map f := by
  apply List.ext_getElem?
  intro i
  rw [List.getElem?_map]
  cases q : es[i]? with
  | none =>
    have := List.getElem?_eq_none_iff.mp q
    rw [List.getElem?_eq_none (by omega)]; rfl
  | some e => obtain ⟨d, h1, h2⟩ := h i e q; rw [h1, ← h2]; rfl
theorem E1.compM {f : Dat → Dat} (hw : Wk p K wi τ ds) (turn : ∀ d, d ∈ ds → E1 p K te (.dat d :: τ) (.dat (f d))) (hz : ds.length ≤ sizeLine) : E1 p K (tCompB 1 wi (gName 0) tAll te) τ (.own (ds.map f)) := by
  refine E.mono (E.compC (Cd := fun d e => f d = e) hw (fun d hd => E.mono (turn d hd) fun s hs => ⟨_, hs.symm, rfl⟩) hz) fun s hs => ?_
  obtain ⟨es, rfl, l, h⟩ := hs
  rw [map_of l h]
theorem E1.compF {f : Dat → Dat} {kp : Dat → Bool} (hw : Wk p K wi τ ds) (ht : ∀ d, d ∈ ds → T1 p K tt (.dat d :: τ) (kp d)) (turn : ∀ d, d ∈ ds → kp d = true → E1 p K te (.dat d :: τ) (.dat (f d))) (hz : ds.length ≤ sizeLine) : E1 p K (tCompB 1 wi (gName 0) tt te) τ (.own ((ds.filter kp).map f)) := by
  refine E.mono (E.comp hw (fun d => [.dat d]) (fun d _ => Gc.name) kp (fun d e => f d = e) ht (fun d hd hk => E.mono (turn d hd hk) fun s hs => ⟨_, hs.symm, rfl⟩) hz) fun s hs => ?_
  obtain ⟨es, rfl, l, h⟩ := hs
  rw [map_of l h]
noncomputable def p1 : Dat → Dat
  | .tuple [x, _] => x
  | d => d
noncomputable def p2 : Dat → Dat
  | .tuple [_, y] => y
  | d => d
theorem zipD_mem {xs ys : List Dat} {d : Dat} (h : d ∈ zipD xs ys) : ∃ x y, d = .tuple [x, y] ∧ x ∈ xs ∧ y ∈ ys := by
  obtain ⟨i, hi⟩ := List.mem_iff_getElem?.mp h
  obtain ⟨x, y, h1, h2, h3⟩ := zipD_get hi
  exact ⟨x, y, h3, List.mem_of_getElem? h1, List.mem_of_getElem? h2⟩
theorem E1.compZ {f : Dat → Dat → Dat} {xs ys : List Dat} (hw : Wk p K wi τ (zipD xs ys)) (turn : ∀ x y, Dat.tuple [x, y] ∈ zipD xs ys → E1 p K te (.dat x :: .dat y :: τ) (.dat (f x y))) (hz : (zipD xs ys).length ≤ sizeLine) : E1 p K (tCompB 2 wi (gPair K) tAll te) τ (.own (List.zipWith f xs ys)) := by
  refine E.mono (E.comp (tt := tAll) hw (fun d => [.dat (p1 d), .dat (p2 d)]) (fun d hd => ?_) (fun _ => true) (fun d e => f (p1 d) (p2 d) = e) (fun _ _ => T1.all) (fun d hd _ => ?_) hz) fun s hs => ?_
  · obtain ⟨x, y, rfl, _, _⟩ := zipD_mem hd; exact Gc.pair
  · obtain ⟨x, y, rfl, _, _⟩ := zipD_mem hd; exact E.mono (turn x y hd) fun s hs => ⟨_, hs.symm, rfl⟩
  · obtain ⟨es, rfl, l, h⟩ := hs
    rw [filter_true] at l h
    rw [map_of l h]
    unfold zipD
    rw [List.map_zipWith]
    rfl
theorem E1.compI {ns : List Int} {g : Int → Int} (hw : Wk p K wi τ (ns.map .int)) (turn : ∀ n, n ∈ ns → E1 p K te (.dat (.int n) :: τ) (.dat (.int (g n)))) (hz : ns.length ≤ sizeLine) : E1 p K (tCompB 1 wi (gName 0) tAll te) τ (.own ((ns.map g).map .int)) := by
  have h := E1.compM (f := fun d => match d with | .int n => .int (g n) | d => d) hw (fun d hd => by
    obtain ⟨n, hn, rfl⟩ := List.mem_map.mp hd
    exact turn n hn) (by rw [List.length_map]; exact hz)
  rw [List.map_map] at h ⊢
  exact h
theorem E1.compIF {ns : List Int} {kp : Int → Bool} (hw : Wk p K wi τ (ns.map .int)) (ht : ∀ n, n ∈ ns → T1 p K tt (.dat (.int n) :: τ) (kp n)) (turn : ∀ n, n ∈ ns → E1 p K te (.dat (.int n) :: τ) (.dat (.int n))) (hz : ns.length ≤ sizeLine) : E1 p K (tCompB 1 wi (gName 0) tt te) τ (.own ((ns.filter kp).map .int)) := by
  have h := E1.compF (f := id) (kp := fun d => match d with | .int n => kp n | d => false) hw (fun d hd => by
    obtain ⟨n, hn, rfl⟩ := List.mem_map.mp hd
    exact ht n hn) (fun d hd _ => by
    obtain ⟨n, hn, rfl⟩ := List.mem_map.mp hd
    exact turn n hn) (by rw [List.length_map]; exact hz)
  rw [List.map_id, List.filter_map] at h
  exact h
theorem E1.compZI {ns ms : List Int} {g : Int → Int → Int} (hw : Wk p K wi τ (zipD (ns.map .int) (ms.map .int))) (turn : ∀ n m, n ∈ ns → m ∈ ms → E1 p K te (.dat (.int n) :: .dat (.int m) :: τ) (.dat (.int (g n m)))) (hz : ns.length ≤ sizeLine) : E1 p K (tCompB 2 wi (gPair K) tAll te) τ (.own ((List.zipWith g ns ms).map .int)) := by
  have h := E1.compZ (f := fun d e => match d, e with | .int n, .int m => .int (g n m) | d, _ => d) hw (fun x y hd => by
    obtain ⟨x', y', e, h1, h2⟩ := zipD_mem hd
    cases e
    obtain ⟨n, hn, rfl⟩ := List.mem_map.mp h1
    obtain ⟨m, hm, rfl⟩ := List.mem_map.mp h2
    exact turn n m hn hm) (by
      unfold zipD
      rw [List.length_zipWith, List.length_map, List.length_map]; omega)
  rw [List.zipWith_map] at h
  rw [List.map_zipWith]
  exact h
theorem E1.cb1 {r : List V → Hp → VK → Prop} {a c : Sl} (ha : A1 p K tas τ [a]) (hr : ∀ (W : Addr → Prop) (H0 H : Hp) (x : V) (Q : VK), Ok p W H0 → Ok p W H → Ev (Pp p) H0 H → Rv p W K H0 H x a → (∀ v H', Ev (Pp p) H H' → Ok p W H' → Rv p W K H0 H' v c → Q v H') → r [x] H Q) : E1 p K (tCB r tas) τ c := fun W L σ H Q rs o q =>
  ha W L σ H _ rs o fun vs H1 ss e e1 o1 rv => by
    subst e
    cases rv with
    | cons a t =>
      cases t
      exact hr W H H1 _ _ o o1 e1 a fun v H' e2 o2 rv => q v H' _ rfl (e1.trans e2) o2 rv
theorem E1.abs {i : Int} (ha : A1 p K tas τ [.dat (.int i)]) : E1 p K (tCB (fun xs H Q => ∃ i, xs = [.int i] ∧ Q (.int (if i < 0 then -i else i)) H) tas) τ (.dat (.int (if i < 0 then -i else i))) :=
  E1.cb1 ha fun W H0 H x Q o0 o _ r q => by cases r.int_inv; exact ⟨i, rfl, q _ H Ev.refl o (.int _)⟩
theorem E1.tupleL {ds : List Dat} (ha : A1 p K tas τ [.vw ds]) : E1 p K (tCB (fun xs H Q => ∃ p ys, xs = [.ref p] ∧ ((SqL K H p ys ∧ ∀ l, H l = none → Q (.ref l) (upd H l (.tup ys))) ∨ (SqT K H p ys ∧ Q (.ref p) H))) tas) τ (.dat (.tuple ds)) :=
  E1.cb1 ha fun W H0 H x Q o0 o _ r q => by
    obtain ⟨a, vs, rfl, h1, h2⟩ := r
    refine ⟨a, vs, rfl, .inl ⟨h1.sq, fun l hl => ?_⟩⟩
    have s := Same.new hl (.tup vs)
    exact q _ _ (Ev.of s) (o.same s) (.tup (SqT.of upd_same) (h2.ev (W := Pp p) (Ev.of s) o.nw))
theorem E1.sum {ns : List Int} (ha : A1 p K tas τ [.vw (ns.map .int)]) : E1 p K (tCB (fun xs H Q => ∃ (a : Addr) (ns : List Int), xs = [.ref a] ∧ SqL K H a (ns.map V.int) ∧ Q (.int ns.sum) H) tas) τ (.dat (.int ns.sum)) :=
  E1.cb1 ha fun W H0 H x Q o0 o _ r q => by
    obtain ⟨a, vs, rfl, h1, h2⟩ := r
    have e := h2.inv
    subst e
    exact ⟨a, ns, rfl, h1.sq, q _ H Ev.refl o (.int _)⟩
theorem E1.lenL {ds : List Dat} (ha : A1 p K tas τ [.vw ds]) : E1 p K (tCB (fun xs H Q => ∃ p ys, xs = [.ref p] ∧ (SqL K H p ys ∨ SqT K H p ys) ∧ Q (.int ys.length) H) tas) τ (.dat (.int ds.length)) :=
  E1.cb1 ha fun W H0 H x Q o0 o _ r q => by
    obtain ⟨a, vs, rfl, h1, h2⟩ := r
    refine ⟨a, vs, rfl, .inl h1.sq, ?_⟩
    rw [h2.len]
    exact q _ H Ev.refl o (.int _)
theorem E1.lenT {ds : List Dat} (ha : A1 p K tas τ [.dat (.tuple ds)]) : E1 p K (tCB (fun xs H Q => ∃ p ys, xs = [.ref p] ∧ (SqL K H p ys ∨ SqT K H p ys) ∧ Q (.int ys.length) H) tas) τ (.dat (.int ds.length)) :=
  E1.cb1 ha fun W H0 H x Q o0 o _ r q => by
    cases r with
    | tup h1 h2 =>
      refine ⟨_, _, rfl, .inr h1, ?_⟩
      rw [h2.len]
      exact q _ H Ev.refl o (.int _)
noncomputable def O1 (p : Option Addr) (K : PySem.W.Frag) (to : TO) (τ : List Sl) (i : Option Int) : Prop := ∀ (W : Addr → Prop) (L : List Addr) (σ : St) (H : Hp) (Q : Option Int → Hp → Prop), Rs p W K H L σ τ → Ok p W H → (∀ H', Ev (Pp p) H H' → Ok p W H' → Q i H') → to σ H Q
end
noncomputable def spP (K : PySem.W.Frag) (R : List Dat → Dat → Prop) : Sp := fun vs H Q _ => ∃ ds d, Dzs (fun _ => True) K H vs ds ∧ R ds d ∧ ∀ v H', Same H H' → Dz (fun a => H a = none) K H' v d → Q v H'
section
variable {p : Option Addr} {K : PySem.W.Frag} {W : Addr → Prop} {L : List Addr} {σ : St} {H H0 H1 H2 : Hp} {τ τ' : List Sl} {ta tb te : TE} {tas : TA} {v : V} {s : Sl} {nx : List Sl → Prop} {rt : Sl → Prop} {t u : TS} {ds : List Dat} {E' : XK}
noncomputable def datsOf : List Sl → Option (List Dat)
  | [] => some []
  | s :: r => match datOf s, datsOf r with
    | some d, some ds => some (d :: ds)
    | _, _ => none
theorem Rvs.dz {ss : List Sl} {vs : List V} (h : Rvs p W K H0 H vs ss) : ∀ {ds : List Dat}, datsOf ss = some ds → Dzs (fun _ => True) K H vs ds := by
  induction h with
  | nil => intro ds e; cases e; exact .nil
  | cons a t ih =>
    rename_i v s vs ss
    intro ds e
    unfold datsOf at e
    cases e1 : datOf s with
    | none => rw [e1] at e; simp at e
    | some d =>
      cases e2 : datsOf ss with
      | none => rw [e1, e2] at e; simp at e
      | some r =>
        rw [e1, e2] at e; cases e
        refine .cons ?_ (ih e2)
        cases s with
        | un => cases e1
        | pu => cases e1
        | dat d' => cases e1; exact Dz.mono (fun _ _ => trivial) a
        | own ds => cases e1; obtain ⟨a, vs, rfl, _, h2, h3⟩ := a; exact .lst (.inl ⟨trivial, .inl h2⟩) (h3.mono fun _ _ => trivial)
        | vw ds => cases e1; obtain ⟨a, vs, rfl, h2, h3⟩ := a; exact .lst (h2.elim (fun z => .inl ⟨trivial, z.2⟩) .inr) (h3.mono fun _ _ => trivial)
theorem E1.call {R : List Dat → Dat → Prop} {ss : List Sl} {ds : List Dat} {d : Dat} (ha : A1 p K tas τ ss) (hr : R ds d) (hd : datsOf ss = some ds := by rfl) : E1 p K (tCall (spP K R) [] E' tas) τ (.dat d) := fun W L σ H Q rs o q => ha W L σ H _ rs o fun vs H1 ss e e1 o1 rv => by
  subst e
  rw [List.append_nil]
  exact ⟨ds, d, rv.dz hd, hr, fun v H' s z => q v H' _ rfl (e1.trans (Ev.of s)) (o1.same s) (z.mono fun a ha => o1.fresh ha)⟩
noncomputable def Gives (d : Dat) : Sl → Prop
  | .dat e => d = e ∧ noL d = true
  | .own ds => d = .list ds ∧ noLs ds = true
  | _ => False
theorem rs_start {N : Addr → Prop} : ∀ {vs : List V} {ds : List Dat} (n : Nat), Dzs N K H vs ds → (∀ a, N a → ¬ W a) → Rs p W K H [] (vs.map some ++ List.replicate n none) (ds.map .dat ++ List.replicate n .un)
  | _, _, 0, .nil, _ => .nil
  | _, _, n + 1, .nil, h => by
    have := rs_start n (Dzs.nil (N := N) (K := K) (H := H)) h
    rw [List.replicate_succ, List.replicate_succ]
    exact .un this
  | _, _, n, .cons a r, h => .dat (a.mono h) (rs_start n r h)
variable {P : Program} {w : World} {mg : Str → Option Value} {base : Heap}
theorem okP {x qual : Str} {st : Stmt} {f : Addr} {fd : FuncData} {N ps : List Str} {k : Nat} {R : List Dat → Dat → Prop} (F : Fun K x qual st f fd) (S0 : FnScope N ps (defScope st)) (len : ∀ ds d, R ds d → ds.length = ps.length)
    (body : ∀ (cdv : Value) (A : Around) (outer : List Env) (s : Shared) (H : Hp) (E : XK), Room k (A.deeper (PyProof.Rows.envOfC qual (defScope st) s.heap.objs.size f cdv)) →
      ∃ t, ZSs (cxOf CX0 P w K mg base N qual (defScope st) f cdv A outer s H E).nox (defBody st) t ∧ ∀ ds d, R ds d → S none K t (ds.map .dat ++ List.replicate (N.length - ps.length) .un) (fun _ => d = .none) (Gives d)) : FnOk P w K mg base CX0 (k + 1) f fd ps (spP K R) := by
  refine F.okZ S0 (fun vs H Q E h => ?_) (fun cdv A outer s H vs Q E hr h => ?_)
  · obtain ⟨ds, d, z, r, _⟩ := h; rw [z.len]; exact len ds d r
  · obtain ⟨ds, d, z, r, q⟩ := h
    obtain ⟨t, hz, hs⟩ := body cdv A outer s H E hr
    refine ⟨t, hz, ?_⟩
    have l : vs.length = ps.length := by rw [z.len]; exact len ds d r
    have r0 : Rs none (fun _ => False) K H [] (L2.start N vs) (ds.map .dat ++ List.replicate (N.length - ps.length) .un) := by
      unfold L2.start
      rw [l]
      exact rs_start _ z fun a _ h => h
    have same : ∀ {H' : Hp}, Ev (fun _ => False) H H' → Same H H' := fun e b o h => e.keep b o (fun z => z) h
    refine hs ds d r (fun _ => False) [] _ H _ r0 ⟨fun q h => (by cases h), fun a h => False.elim h⟩ (fun W' L' σ' H' τ' e ev o' al n l r' => ?_) (fun W' H' v s e ev o' al n rv => ?_)
    · subst e; exact q .non H' (same ev) .none
    · cases s with
      | dat d' =>
        obtain ⟨rfl, nl⟩ := e
        exact q v H' (same ev) (Dz.free rv nl)
      | own es =>
        obtain ⟨rfl, nl⟩ := e
        obtain ⟨a, vs, rfl, h1, h2, h3⟩ := rv
        exact q _ H' (same ev) (.lst (.inl ⟨h1.resolve_left (fun z => by cases z), .inl h2⟩) (h3.free nl))
      | un => cases e
      | pu => cases e
      | vw ds => cases e
end
end D
end

section
set_option Elab.async false
set_option linter.all false
set_option maxRecDepth 100000
set_option maxHeartbeats 4000000
namespace L2
open PySem PySem.Spec PyProof.Rows
open PySem.W (Dat)
noncomputable def tyD : Dat → String
  | .none => "NoneType"
  | .bool _ => "bool"
  | .int _ => "int"
  | .str _ => "str"
  | .tuple _ => "tuple"
  | .list _ => "list"
  | _ => "object"
theorem call_isiD {X : Cx} {T : String} : CallR X (.builtin "isinstance") (fun xs H Q => ∃ x d b, xs = [x, .ty T] ∧ Is X.K H x d ∧ PySem.W.kitOne X.K (.type (tyD d)) (.type T) = some b ∧ Q (.bl b) H) := by
  intro pins s σ H xs us Q I r h
  obtain ⟨x, d, b, rfl, z, e, q⟩ := h
  cases r with
  | cons r1 r2 =>
    cases r2 with
    | cons r3 r4 =>
      cases r4
      cases (show _ = Value.type T from r3)
      have fin : ∀ tk, EP X pins σ Q (.bool b) { s with toks := tk } := fun tk => ⟨.bl b, H, I.tok tk, rfl, q⟩
      cases z with
      | none => exact isinst_ok I r1 .non e fin
      | bool y => exact isinst_ok I r1 (.bl y) e fin
      | int i => exact isinst_ok I r1 (.int i) e fin
      | str y => exact isinst_ok I r1 (.str y) e fin
      | @tup a ys ds h1 h2 =>
        cases (show _ = Value.ref a from r1)
        obtain ⟨its, _, ⟨o, h3, h4, _⟩, _⟩ := I.tuple h1
        exact PySem.W.kia_one PySem.W.kitx_tuple I.kIn ⟨o, h3, h4⟩ e (fun z => nomatch z) fin
      | @lst a ys ds h1 h2 =>
        cases (show _ = Value.ref a from r1)
        obtain ⟨its, _, ⟨o, n, h3, h4, _⟩, _⟩ := I.list h1
        exact PySem.W.kia_one PySem.W.kitx_list I.kIn ⟨o, h3, h4⟩ e (fun z => nomatch z) fin
end L2
namespace D
open PySem L2 K0 Num
open PySem.W (Dat)
noncomputable abbrev tI (ns : List Int) : Dat := .tuple (ns.map .int)
section
variable {p : Option Addr} {K : PySem.W.Frag} {W : Addr → Prop} {L : List Addr} {σ : St} {H H0 H1 H2 : Hp} {τ τ' : List Sl} {ta tb te : TE} {tas : TA} {v : V} {s : Sl} {nx : List Sl → Prop} {rt : Sl → Prop} {t u : TS} {ds : List Dat} {E' : XK}
noncomputable def dOf : List Sl → Option (List Dat)
  | [] => some []
  | .dat d :: r => match dOf r with
    | some ds => some (d :: ds)
    | none => none
  | _ => none
theorem dOf_eq : ∀ {ss : List Sl} {ds : List Dat}, dOf ss = some ds → ss = ds.map .dat
  | [], ds, h => by cases h; rfl
  | .dat d :: r, ds, h => by
    unfold dOf at h
    cases e : dOf r with
    | none => rw [e] at h; cases h
    | some es => rw [e] at h; cases h; rw [dOf_eq e]; rfl
  | .un :: _, _, h => by cases h
  | .pu :: _, _, h => by cases h
  | .own _ :: _, _, h => by cases h
  | .vw _ :: _, _, h => by cases h
theorem E1.tu {ss : List Sl} {ds : List Dat} (h : A1 p K tas τ ss) (e : dOf ss = some ds) (hz : ds.length ≤ sizeLine) : E1 p K (tTup tas) τ (.dat (.tuple ds)) := E1.tup (dOf_eq e ▸ h) hz
theorem E1.li {ss : List Sl} {ds : List Dat} (h : A1 p K tas τ ss) (e : dOf ss = some ds) (hz : ds.length ≤ sizeLine) : E1 p K (tLst tas) τ (.own ds) := E1.lst (dOf_eq e ▸ h) hz
theorem E1.isi {T : String} {s : Sl} {d : Dat} {b : Bool} (ha : E1 p K te τ s) (hd : datOf s = some d) (hb : ∀ K, PySem.W.kitOne K (.type (tyD d)) (.type T) = some b) : E1 p K (tCB (fun xs H Q => ∃ x d b, xs = [x, .ty T] ∧ Is K H x d ∧ PySem.W.kitOne K (.type (tyD d)) (.type T) = some b ∧ Q (.bl b) H) (tCons te (tCons (tC (.ty T)) tNil))) τ (.dat (.bool b)) := fun W L σ H Q r o q =>
  ha W L σ H _ r o fun v H1 s e e1 o1 rv => by
    subst e
    exact ⟨v, d, b, rfl, rv.isD hd, hb K, q _ H1 _ rfl e1 o1 (.bool _)⟩
theorem tup_inv {N : Addr → Prop} {ns : List Int} {v : V} (h : Dz N K H v (tI ns)) : ∃ a, v = .ref a ∧ SqT K H a (ns.map V.int) := by
  cases h with
  | tup h1 h2 => have e := h2.inv; subst e; exact ⟨_, rfl, h1⟩
theorem told {N : Addr → Prop} {ns : List Int} {r : Addr} (h : H r = some (.tup (ns.map V.int))) : Dz N K H (.ref r) (tI ns) := .tup (SqT.of h) (Dzs.ints _)
theorem E.c1 {sp : Sp} {ns : List Int} {C : Sl → Prop} (ha : A1 p K tas τ [.dat (tI ns)]) (h : ∀ (W : Addr → Prop) (H : Hp) (a : Addr) (Q : VK), SqT K H a (ns.map V.int) → (∀ v H' s, C s → Same H H' → (∀ W, Rv p W K H H' v s) → Q v H') → sp [.ref a] H Q E') : E p K (tCall sp [] E' tas) τ C := fun W L σ H Q rs o q => ha W L σ H _ rs o fun vs H1 ss e e1 o1 rv => by
  subst e
  cases rv with
  | cons a t =>
    cases t
    obtain ⟨r, rfl, z⟩ := tup_inv a
    exact h W H1 r _ z fun v H' s c sm z => q v H' s c (e1.trans (Ev.of sm)) (o1.same sm) ((z W).base e1 o1)
theorem E.c2 {sp : Sp} {ns ms : List Int} {C : Sl → Prop} (ha : A1 p K tas τ [.dat (tI ns), .dat (tI ms)]) (h : ∀ (W : Addr → Prop) (H : Hp) (a b : Addr) (Q : VK), SqT K H a (ns.map V.int) → SqT K H b (ms.map V.int) → (∀ v H' s, C s → Same H H' → (∀ W, Rv p W K H H' v s) → Q v H') → sp [.ref a, .ref b] H Q E') : E p K (tCall sp [] E' tas) τ C := fun W L σ H Q rs o q => ha W L σ H _ rs o fun vs H1 ss e e1 o1 rv => by
  subst e
  cases rv with
  | cons a t =>
    cases t with
    | cons b t =>
      cases t
      obtain ⟨r, rfl, z⟩ := tup_inv a
      obtain ⟨r2, rfl, z2⟩ := tup_inv b
      exact h W H1 r r2 _ z z2 fun v H' s c sm z => q v H' s c (e1.trans (Ev.of sm)) (o1.same sm) ((z W).base e1 o1)
theorem E1.cT {pre : List Int → Prop} {fn : List Int → List Int} {ns : List Int} (ha : A1 p K tas τ [.dat (tI ns)]) (hl : ns.length ≤ 1000) (hp : pre ns) : E1 p K (tCall (spT K pre fn) [] E' tas) τ (.dat (tI (fn ns))) :=
  E.c1 ha fun W H a Q z q => ⟨a, ns, rfl, z, hl, hp, fun r H' s h => q _ H' _ rfl s fun W => told h⟩
theorem E1.cCD {ns : List Int} (ha : A1 p K tas τ [.dat (tI ns)]) : E1 p K (tCall (spCD K) [] E' tas) τ (.dat (.int (gcdN ns))) :=
  E.c1 ha fun W H a Q z q => ⟨a, ns, rfl, z, q _ H _ rfl (Same.refl _) fun W => .int _⟩
theorem E1.cSize {ns : List Int} (ha : A1 p K tas τ [.dat (tI ns)]) (hl : ns.length ≤ 1000) (hs : Sm ns) : E1 p K (tCall (spSize K) [] E' tas) τ (.dat (.int (sop ns ns))) :=
  E.c1 ha fun W H a Q z q => ⟨a, ns, rfl, z, hl, hs, fun H' s => q _ H' _ rfl s fun W => .int _⟩
theorem E1.cSop {ns ms : List Int} (ha : A1 p K tas τ [.dat (tI ns), .dat (tI ms)]) (l1 : ns.length ≤ 1000) (l2 : ms.length = ns.length) (s1 : Sm ns) (s2 : Sm ms) : E1 p K (tCall (spSop K) [] E' tas) τ (.dat (.int (sop ns ms))) :=
  E.c2 ha fun W H a b Q z z2 q => ⟨a, b, ns, ms, rfl, z, z2, l1, l2, s1, s2, fun H' s => q _ H' _ rfl s fun W => .int _⟩
end
theorem Bt.add' {a b : Int} {x y : Nat} (ha : Bt a x) (hb : Bt b y) : Bt (a + b) (max x y + 1) := (ha.up (Nat.le_max_left _ _)).add (hb.up (Nat.le_max_right _ _))
theorem Bt.sub' {a b : Int} {x y : Nat} (ha : Bt a x) (hb : Bt b y) : Bt (a - b) (max x y + 1) := (ha.up (Nat.le_max_left _ _)).sub (hb.up (Nat.le_max_right _ _))
theorem Bt.neg' {a : Int} {x : Nat} (ha : Bt a x) : Bt (-a) x := by unfold Bt at *; rw [Int.natAbs_neg]; exact ha
theorem bt2 : Bt 2 1 := by unfold Bt; decide
theorem bd_bt3 {k : Nat} {a b c : Int} (h : Bd (2 ^ k) [a, b, c]) : Bt a k ∧ Bt b k ∧ Bt c k := ⟨h a (by simp), h b (by simp), h c (by simp)⟩
theorem bd_bt4 {k : Nat} {a b c d : Int} (h : Bd (2 ^ k) [a, b, c, d]) : Bt a k ∧ Bt b k ∧ Bt c k ∧ Bt d k := ⟨h a (by simp), h b (by simp), h c (by simp), h d (by simp)⟩
theorem bt_bd3 {k : Nat} {a b c : Int} (h1 : Bt a k) (h2 : Bt b k) (h3 : Bt c k) : Bd (2 ^ k) [a, b, c] := fun n hn => by
  simp only [List.mem_cons, List.mem_nil_iff, or_false] at hn
  rcases hn with rfl | rfl | rfl
  · exact h1
  · exact h2
  · exact h3
section
variable {p : Option Addr} {K : PySem.W.Frag} {τ : List Sl} {te : TE} {ds : List Dat}
theorem lsz {α : Type} {l : List α} {n : Nat} (h : l.length = n) (hn : n ≤ sizeLine) : l.length ≤ sizeLine := h ▸ hn
theorem z1 : 1 ≤ sizeLine := by decide
theorem z2 : 2 ≤ sizeLine := by decide
theorem z3 : 3 ≤ sizeLine := by decide
theorem z4 : 4 ≤ sizeLine := by decide
theorem z0 : 0 ≤ sizeLine := by decide
end
end D
end

section
set_option Elab.async false
set_option linter.all false
set_option maxRecDepth 100000
set_option maxHeartbeats 4000000
set_option exponentiation.threshold 200000
namespace D
open PySem L2 K0 Num
open PySem.W (Dat)
theorem sm_bd' {k : Nat} {ns : List Int} (h : Bd (2 ^ k) ns) (hk : k < 9000 := by decide) : Sm ns := sm_bd h (Nat.pow_lt_pow_right (by decide) hk)
theorem bd_up {k l : Nat} {ns : List Int} (h : Bd (2 ^ k) ns) (hk : k ≤ l := by decide) : Bd (2 ^ l) ns := bd_mono h (Nat.pow_le_pow_right (by decide) hk)
theorem nz_of_ne4 {ns : List Int} (l : ns.length = 4) (h : ns ≠ [0, 0, 0, 0]) : ∃ n ∈ ns, n ≠ 0 := by
  obtain ⟨a, b, c, d, rfl⟩ := four_of l
  by_cases ha : a = 0
  · by_cases hb : b = 0
    · by_cases hc : c = 0
      · by_cases hd : d = 0
        · subst ha hb hc hd; exact absurd rfl h
        · exact ⟨d, by simp, hd⟩
      · exact ⟨c, by simp, hc⟩
    · exact ⟨b, by simp, hb⟩
  · exact ⟨a, by simp, ha⟩
theorem cpow10 {k : Int} (h0 : 0 ≤ k) (h1 : k ≤ 1000000) : CPow 10 k := ⟨h0, h1, by decide⟩
section
variable {p : Option Addr} {K : PySem.W.Frag} {τ : List Sl} {ta tb : TE}
end
theorem T1.eqn {p : Option Addr} {K : PySem.W.Frag} {τ : List Sl} {tt : TT} {b c : Bool} (h : T1 p K tt τ b) (e : b = c) : T1 p K tt τ c := e ▸ h
section
variable {p : Option Addr} {K : PySem.W.Frag} {τ : List Sl} {te : TE} {tt : TT}
theorem T1.notT (h : T1 p K tt τ true) : T1 p K (tNot tt) τ false := T1.not h
theorem T1.notF (h : T1 p K tt τ false) : T1 p K (tNot tt) τ true := T1.not h
theorem E1.isiT {ds : List Dat} (ha : E1 p K te τ (.dat (.tuple ds))) : E1 p K (tCB (fun xs H Q => ∃ x d b, xs = [x, .ty "tuple"] ∧ Is K H x d ∧ PySem.W.kitOne K (.type (tyD d)) (.type "tuple") = some b ∧ Q (.bl b) H) (tCons te (tCons (tC (.ty "tuple")) tNil))) τ (.dat (.bool true)) := E1.isi ha rfl fun K => by rfl
theorem T1.neT {p : Option Addr} {K : PySem.W.Frag} {τ : List Sl} {ta tb : TE} {i j : Int} (ha : E1 p K ta τ (.dat (.int i))) (hb : E1 p K tb τ (.dat (.int j))) (e : i = j) : T1 p K (tTest (tOp rNe ta tb)) τ false := (T1.test (E1.ne ha hb)).eqn (by rw [decide_eq_true e]; rfl)
theorem T1.neDT {p : Option Addr} {K : PySem.W.Frag} {τ : List Sl} {ta tb : TE} {a b : Sl} {d : Dat} (ha : E1 p K ta τ a) (hb : E1 p K tb τ b) (ea : datOf a = some d) (eb : datOf b = some d) (k1 : PySem.W.kqdOk 9 d = true) : T1 p K (tTest (tOp (rEqD K true) ta tb)) τ false := (T1.test (E1.neD ha hb ea eb k1 k1)).eqn (by rw [deq_self]; rfl)
end
end D
end

section
set_option Elab.async false
set_option linter.all false
set_option maxRecDepth 100000
set_option maxHeartbeats 4000000
set_option exponentiation.threshold 200000
namespace D
open PySem L2 K0 Num
open PySem.W (Dat)
section
variable {p : Option Addr} {K : PySem.W.Frag} {W : Addr → Prop} {L : List Addr} {σ : St} {H H0 H1 H2 : Hp} {τ τ' : List Sl} {ta tb tc te ti : TE} {tas : TA} {v : V} {s : Sl} {nx : List Sl → Prop} {rt : Sl → Prop} {t u : TS} {ds : List Dat} {E' : XK} {wi : TI}
variable {P : Program} {w : World} {mg : Str → Option Value} {base : Heap}
theorem okL {x qual : Str} {st : Stmt} {f : Addr} {fd : FuncData} {N ps : List Str} {k : Nat} (F : Fun K x qual st f fd) (S0 : FnScope N ps (defScope st)) (len : ps.length = 1)
    (body : ∀ (cdv : Value) (A : Around) (outer : List Env) (s : Shared) (H : Hp) (E : XK), Room k (A.deeper (PyProof.Rows.envOfC qual (defScope st) s.heap.objs.size f cdv)) →
      ∃ t, ZSs (cxOf CX0 P w K mg base N qual (defScope st) f cdv A outer s H E).nox (defBody st) t ∧ ∀ ns : List Int, ns.length ≤ 63 → (∀ v ∈ ns, Builtin.Int.intBits v ≤ 2 ^ 20) → S none K t (.dat (.list (ns.map .int)) :: List.replicate (N.length - 1) .un) (fun _ => False) (fun s => s = .dat (.bool true))) : FnOk P w K mg base CX0 (k + 1) f fd ps (spLaw K) := by
  refine F.okZ S0 (fun vs H Q E h => ?_) (fun cdv A outer s H vs Q E hr h => ?_)
  · obtain ⟨a, ns, rfl, _⟩ := h; rw [len]; rfl
  · obtain ⟨a, ns, rfl, hS, hl, hb, q⟩ := h
    obtain ⟨t, hz, hs⟩ := body cdv A outer s H E hr
    refine ⟨t, hz, ?_⟩
    have z : Dzs (fun _ => True) K H [.ref a] [.list (ns.map .int)] := .cons (.lst (by
      rcases hS with h | h
      · exact .inl ⟨trivial, h⟩
      · exact .inr (.inr h)) (Dzs.ints _)) .nil
    have r0 : Rs none (fun _ => False) K H [] (L2.start N [.ref a]) (.dat (.list (ns.map .int)) :: List.replicate (N.length - 1) .un) := by
      unfold L2.start
      exact rs_start _ z fun a _ h => h
    refine hs ns hl hb (fun _ => False) [] _ H _ r0 ⟨fun q h => (by cases h), fun a h => False.elim h⟩ (fun W' L' σ' H' τ' e ev o' al n l r' => e.elim) (fun W' H' v s e ev o' al n rv => ?_)
    subst e
    cases (Rv.bl_inv (p := none) (H0 := H) rv)
    exact q H'
end
end D
end

section
set_option Elab.async false
set_option linter.all false
set_option maxRecDepth 100000
set_option maxHeartbeats 4000000
namespace D
open PySem L2 K0
open PySem.W (Dat)
section
variable {p : Option Addr} {K : PySem.W.Frag} {W : Addr → Prop} {L : List Addr} {σ : St} {H H0 H1 H2 : Hp} {τ τ' : List Sl} {ta tb te : TE} {tas : TA} {v : V} {s : Sl} {nx : List Sl → Prop} {rt : Sl → Prop} {t u : TS} {ds : List Dat} {wi : TI} {tt : TT}
theorem E.compX {no : Nat} {g : TG} (hw : Wk p K wi τ ds) (own : Dat → List Sl) (hg : ∀ d, d ∈ ds → Gc p K no g d (own d)) (Cd : Nat → Dat → Prop)
    (turn : ∀ (i : Nat) d, ds[i]? = some d → E p K te (own d ++ τ) (fun s => ∃ e, s = .dat e ∧ Cd i e)) (hz : ds.length ≤ sizeLine) :
    E p K (tCompB no wi g tAll te) τ (fun s => ∃ es, s = .own es ∧ es.length = ds.length ∧ ∀ (i : Nat) (e : Dat), es[i]? = some e → Cd i e) := fun W L σ H Q r o q => by
  refine hw W L σ H _ r o fun J H1 e1 o1 jd => ?_
  intro D hD
  have nD := o1.fresh hD
  have pD := o1.np hD
  have r1 := r.ev e1 o.pw
  have r1' : Rs p (fun b => W b ∨ b = D) K H1 L σ τ := r1.wide (fun _ h => .inl h) fun b hb nb => (hb.resolve_left nb) ▸ hD
  refine ⟨fun i m σ' H' => m = ds.length - i ∧ i ≤ ds.length ∧ (∃ ρ, ρ.length = no ∧ σ' = ρ ++ σ) ∧ Ev (fun a => Pp p a ∨ a = D) H1 H' ∧ (∀ q, p = some q → Pu H' q) ∧ ∃ (vs : List V) (es : List Dat), H' D = some (.lst vs) ∧ Dzs (fun b => ¬ (W b ∨ b = D)) K H' vs es ∧ es.length = i ∧ ∀ (j : Nat) (e : Dat), es[j]? = some e → Cd j e,
    ⟨ds.length, by omega, Nat.zero_le _, ⟨List.replicate no none, by simp, rfl⟩, ⟨fun b u nb h => by rw [upd_ne (fun z => nb (.inr z))]; exact h, (Same.new hD _).tm⟩, fun q hq => (o1.pu q hq).1.same (Same.new hD _), [], [], upd_same, .nil, rfl, fun j e h => by simp at h⟩, ?_⟩
  rintro i m σ' H' ⟨rfl, hi, ⟨ρ, lρ, rfl⟩, ev, pu, vs, es, hv, zv, le, hes⟩
  have evW : Ev W H1 H' := ⟨fun b u nb h => ev.keep b u (fun z => z.elim (fun y => nb (o1.pw b y)) fun y => by rw [y] at h; rw [hD] at h; cases h) h, ev.tm⟩
  have ok' : Ok p (fun b => W b ∨ b = D) H' := ⟨fun q hq => ⟨pu q hq, .inl (o1.pw q hq)⟩, fun b hb => by
    by_cases z : b = D
    · subst z; exact ⟨_, hv⟩
    · by_cases y : p = some b
      · obtain ⟨x1, x2, h⟩ := pu b y; exact ⟨_, h⟩
      · obtain ⟨ys, h⟩ := o1.al b (hb.resolve_right z)
        exact ⟨ys, ev.keep _ _ (fun w => w.elim y z) h⟩⟩
  have evD : Ev (fun b => W b ∨ b = D) H1 H' := evW.mono fun _ h => .inl h
  have rs' : Rs p (fun b => W b ∨ b = D) K H' L σ τ := by
    refine Rs.evx r1' ev (fun a ha z => ?_) fun a u ha np z => ?_
    · rcases z with z | z
      · exact ha (.inl (o1.pw a z))
      · exact ha (.inr z)
    · rcases z with z | z
      · exact np z
      · rw [z, hD] at ha; cases ha
  obtain ⟨stop, each⟩ := jd (fun b => W b ∨ b = D) H' evW fun a ha => ha.imp id fun z => by rw [z]; exact hD
  have o1f : H D = none := o1.back e1 hD
  by_cases hlt : i < ds.length
  · have hd : ds[i]? = some ds[i] := by simp [hlt]
    have hm : ds[i] ∈ ds := List.getElem_mem hlt
    obtain ⟨go, yl⟩ := each i _ hd
    refine .inr ⟨go, fun x H2 y => ?_⟩
    obtain ⟨s2, z2⟩ := yl x H2 y
    have ok2 := ok'.same s2
    refine hg _ hm _ L ρ σ τ H2 x _ lρ (rs'.ev (Ev.of s2) ok'.pw) z2 fun ρ' lρ' rs2 => ?_
    have hv4 : H2 D = some (.lst vs) := s2 _ _ hv
    have zv4 : Dzs (fun b => ¬ (W b ∨ b = D)) K H2 vs es := zv.ev (W := fun _ => False) (Ev.of s2) fun _ _ h => h
    show tAll _ _ _
    unfold tAll
    dsimp only
    rw [if_pos rfl]
    refine turn i _ hd _ L _ H2 _ rs2 ok2 fun v H5 s c e5 o5 rv => ?_
    obtain ⟨e, rfl, ce⟩ := c
    have hv5 : H5 D = some (.lst vs) := e5.keep _ _ pD hv4
    have zv5 := zv4.ev e5 fun a ha z => ha (.inl (o1.pw a z))
    have ll : vs.length ≤ i := by rw [zv.len, le]; exact Nat.le_refl _
    have evu : Ev (fun b => b = D) H5 (upd H5 D (.lst (vs ++ [v]))) := ⟨fun b o n h => by rw [upd_ne n]; exact h, Tm.lst hv5 _⟩
    have pvH : Ev (fun a => Pp p a ∨ a = D) H' H2 := Ev.of s2
    refine ⟨vs, hv5, by omega, ds.length - (i + 1), by omega, rfl, hlt, ⟨ρ', lρ', rfl⟩, (ev.trans (pvH.trans (e5.mono fun _ h => .inl h))).trans (evu.mono fun _ h => .inr h), fun q hq => ?_, vs ++ [v], es ++ [e], upd_same, (zv5.app (.cons rv .nil)).ev evu fun b hb z => hb (.inr z), ?_, fun j f hj => ?_⟩
    · obtain ⟨x1, x2, h⟩ := (o5.pu q hq).1
      exact ⟨x1, x2, by rw [upd_ne (fun z => pD (by rw [← z]; exact hq))]; exact h⟩
    · rw [List.length_append, le]; rfl
    · by_cases hj2 : j < es.length
      · rw [List.getElem?_append_left hj2] at hj
        exact hes j f hj
      · rw [List.getElem?_append_right (by omega)] at hj
        have ej : j - es.length = 0 := by
          have := (List.getElem?_eq_some_iff.mp hj).1
          simp at this; omega
        rw [ej] at hj
        cases hj
        have : j = i := by omega
        rw [this]; exact ce
  · have e : i = ds.length := by omega
    subst e
    have evP : Ev (Pp p) H1 H' := ⟨fun b u nb h => ev.keep b u (fun z => z.elim nb fun y => by rw [y] at h; rw [hD] at h; cases h) h, ev.tm⟩
    refine .inl ⟨stop, q _ H' _ ⟨es, rfl, le, hes⟩ (e1.trans evP) (o1.ev evP pu) ⟨D, vs, rfl, o1f, hv, zv.mono fun a ha z => ha (.inl z)⟩⟩
theorem ext_of {es fs : List Dat} (l : es.length = fs.length) (h : ∀ (i : Nat) (e : Dat), es[i]? = some e → fs[i]? = some e) : es = fs := by
  apply List.ext_getElem?
  intro i
  cases q : es[i]? with
  | none =>
    have := List.getElem?_eq_none_iff.mp q
    rw [List.getElem?_eq_none (by omega)]
  | some e => rw [h i e q]
theorem E1.compX {no : Nat} {g : TG} (fs : List Dat) (hw : Wk p K wi τ ds) (own : Dat → List Sl) (hg : ∀ d, d ∈ ds → Gc p K no g d (own d)) (hl : fs.length = ds.length) (turn : ∀ (i : Nat) d f, ds[i]? = some d → fs[i]? = some f → E1 p K te (own d ++ τ) (.dat f)) (hz : ds.length ≤ sizeLine) : E1 p K (tCompB no wi g tAll te) τ (.own fs) := by
  refine E.mono (E.compX hw own hg (fun i e => fs[i]? = some e) (fun i d hd => ?_) hz) fun s ⟨es, e, l, h⟩ => ?_
  · have hi : i < fs.length := by rw [hl]; exact (List.getElem?_eq_some_iff.mp hd).1
    have hf : fs[i]? = some fs[i] := by simp [hi]
    exact E.mono (turn i d _ hd hf) fun s hs => ⟨_, hs.symm, hf⟩
  · rw [e, ext_of (by rw [l, hl]) h]
theorem E1.comp3 {d1 d2 d3 e1 e2 e3 : Dat} (hw : Wk p K wi τ [d1, d2, d3]) (h1 : E1 p K te (.dat d1 :: τ) (.dat e1)) (h2 : E1 p K te (.dat d2 :: τ) (.dat e2)) (h3 : E1 p K te (.dat d3 :: τ) (.dat e3)) : E1 p K (tCompB 1 wi (gName 0) tAll te) τ (.own [e1, e2, e3]) :=
  E1.compX [e1, e2, e3] hw (fun d => [.dat d]) (fun d _ => Gc.name) rfl (fun i d f hd hf => by
    rcases get3 hd with ⟨rfl, rfl⟩ | ⟨rfl, rfl⟩ | ⟨rfl, rfl⟩
    · cases hf; exact h1
    · cases hf; exact h2
    · cases hf; exact h3) (by show 3 ≤ sizeLine; decide)
theorem E1.compZ3 {x1 x2 x3 y1 y2 y3 e1 e2 e3 : Dat} (hw : Wk p K wi τ (zipD [x1, x2, x3] [y1, y2, y3])) (h1 : E1 p K te (.dat x1 :: .dat y1 :: τ) (.dat e1)) (h2 : E1 p K te (.dat x2 :: .dat y2 :: τ) (.dat e2)) (h3 : E1 p K te (.dat x3 :: .dat y3 :: τ) (.dat e3)) : E1 p K (tCompB 2 wi (gPair K) tAll te) τ (.own [e1, e2, e3]) :=
  E1.compX [e1, e2, e3] hw (fun d => [.dat (p1 d), .dat (p2 d)]) (fun d hd => by obtain ⟨x, y, rfl, _, _⟩ := zipD_mem hd; exact Gc.pair) rfl (fun i d f hd hf => by
    rcases get3 hd with ⟨rfl, rfl⟩ | ⟨rfl, rfl⟩ | ⟨rfl, rfl⟩
    · cases hf; exact h1
    · cases hf; exact h2
    · cases hf; exact h3) (by show 3 ≤ sizeLine; decide)
theorem rangeD_3 : rangeD 0 3 = [.int 0, .int 1, .int 2] := rfl
theorem rangeD_4 : rangeD 0 4 = [.int 0, .int 1, .int 2, .int 3] := rfl
theorem Wk.r3 (h : A1 p K tas τ [.dat (.int 3)]) : Wk p K (iRng1 tas) τ [.int 0, .int 1, .int 2] := rangeD_3 ▸ Wk.rng h rfl
theorem Wk.r4 (h : A1 p K tas τ [.dat (.int 4)]) : Wk p K (iRng1 tas) τ [.int 0, .int 1, .int 2, .int 3] := rangeD_4 ▸ Wk.rng h rfl
noncomputable def iOf : List Dat → Option (List Int)
  | [] => some []
  | .int i :: r => match iOf r with
    | some ns => some (i :: ns)
    | none => none
  | _ => none
theorem iOf_eq : ∀ {ds : List Dat} {ns : List Int}, iOf ds = some ns → ds = ns.map .int
  | [], ns, h => by cases h; rfl
  | .int i :: r, ns, h => by
    unfold iOf at h
    cases e : iOf r with
    | none => rw [e] at h; cases h
    | some es => rw [e] at h; cases h; rw [iOf_eq e]; rfl
theorem E1.su {ds : List Dat} {ns : List Int} (ha : A1 p K tas τ [.vw ds]) (e : iOf ds = some ns) : E1 p K (tCB (fun xs H Q => ∃ (a : Addr) (ns : List Int), xs = [.ref a] ∧ SqL K H a (ns.map V.int) ∧ Q (.int ns.sum) H) tas) τ (.dat (.int ns.sum)) := E1.sum (iOf_eq e ▸ ha)
end
end D
end

section
set_option Elab.async false
set_option linter.all false
set_option maxRecDepth 100000
set_option maxHeartbeats 4000000
set_option exponentiation.threshold 200000
namespace D
open PySem L2 K0 Num
open PySem.W (Dat)
section
variable {p : Option Addr} {K : PySem.W.Frag} {τ τ' : List Sl} {ta tb tc te ti : TE} {tas : TA} {v : V} {s : Sl} {nx : List Sl → Prop} {rt : Sl → Prop} {t u : TS} {ds : List Dat} {E' : XK} {wi : TI}
end
theorem kq_ints {n : Nat} {ns : List Int} : PySem.W.kqdOk (n + 1) (tI ns) = true := kqd_ints ns n
end D
end

section
set_option Elab.async false
set_option linter.all false
set_option maxRecDepth 100000
set_option maxHeartbeats 4000000
set_option exponentiation.threshold 200000
namespace D
open PySem L2 K0 Num
open PySem.W (Dat)
section
variable {p : Option Addr} {K : PySem.W.Frag} {τ τ' : List Sl} {ta tb tc te ti : TE} {tas : TA} {v : V} {s : Sl} {nx : List Sl → Prop} {rt : Sl → Prop} {t u : TS} {ds : List Dat} {E' : XK} {wi : TI} {tt : TT}
noncomputable def ff : List Int → Int
  | [] => 0
  | n :: r => if n = 0 then ff r + 1 else 0
end
end D
end

section
set_option Elab.async false
set_option linter.all false
set_option maxRecDepth 100000
set_option maxHeartbeats 4000000
set_option exponentiation.threshold 200000
namespace D
open PySem L2 K0 Num
open PySem.W (Dat)
noncomputable def qf (x : Rat) : List Int := [x.num, (x.den : Int)]
noncomputable def ptQ (x y z : Rat) : Dat := ptD (qf x) (qf y) (qf z)
section
variable {p : Option Addr} {K : PySem.W.Frag} {W : Addr → Prop} {H H0 : Hp} {τ : List Sl} {tas : TA} {E' : XK}
end
noncomputable def sa (x y z a b c e : Int) : Option (List Int) := if cr x y z b c e = [0, 0, 0] then some (if x = 0 then (if y = 0 then ps e (a * z) else ps c (a * y)) else ps b (a * x)) else none
end D
end

section
set_option Elab.async false
set_option linter.all false
set_option maxRecDepth 100000
set_option maxHeartbeats 4000000
set_option exponentiation.threshold 200000
namespace D
open PySem L2 K0 Num
open PySem.W (Dat)
section
variable {p : Option Addr} {K : PySem.W.Frag} {τ : List Sl} {ta tb : TE}
end
end D
end

section
set_option Elab.async false
set_option linter.all false
set_option maxRecDepth 100000
set_option maxHeartbeats 4000000
set_option exponentiation.threshold 200000
namespace L2
open PySem PySem.Spec PyProof.Rows
end L2
namespace D
open PySem L2 K0 Num
open PySem.W (Dat)
section
variable {p : Option Addr} {K : PySem.W.Frag} {τ : List Sl} {tas : TA}
end
end D
end

section
set_option Elab.async false
set_option linter.all false
set_option maxRecDepth 100000
set_option maxHeartbeats 4000000
set_option exponentiation.threshold 200000
namespace D
open PySem L2 K0 Num
open PySem.W (Dat)
section
variable {p : Option Addr} {K : PySem.W.Frag} {τ : List Sl} {ta tb te : TE}
theorem E1.neB {a b : Bool} (ha : E1 p K ta τ (.dat (.bool a))) (hb : E1 p K tb τ (.dat (.bool b))) : E1 p K (tOp rNe ta tb) τ (.dat (.bool (!decide (a = b)))) := E1.op2 ha hb fun W H0 H u v Q o0 o r1 r2 q => by
  cases r1.bl_inv; cases r2.bl_inv
  refine ⟨rfl, q _ H Ev.refl o ?_⟩
  have e : decide (V.bl a = V.bl b) = decide (a = b) := by rw [decide_eq_decide]; exact ⟨fun h => by injection h, fun h => by rw [h]⟩
  rw [e]; exact .bool _
end
end D
end

section
set_option Elab.async false
set_option linter.all false
set_option maxRecDepth 100000
set_option maxHeartbeats 4000000
set_option exponentiation.threshold 200000
namespace D
open PySem L2 K0 Num
open PySem.W (Dat)
section
variable {p : Option Addr} {K : PySem.W.Frag} {τ : List Sl} {tas : TA} {E' : XK}
end
end D
end

section
set_option Elab.async false
set_option linter.all false
set_option maxRecDepth 100000
set_option maxHeartbeats 4000000
set_option exponentiation.threshold 200000
namespace D
open PySem L2 K0 Num
open PySem.W (Dat)
section
variable {p : Option Addr} {K : PySem.W.Frag} {W : Addr → Prop} {H H0 : Hp} {τ : List Sl} {tas : TA} {E' : XK}
end
end D
end

section
set_option Elab.async false
set_option linter.all false
set_option maxRecDepth 100000
set_option maxHeartbeats 4000000
set_option exponentiation.threshold 200000
namespace D
open PySem L2 K0 Num
open PySem.W (Dat)
noncomputable abbrev Q1 (a b d e : Int) (x y z : Rat) : Rat := K0.R1 a b d e x y z / N4 a b d e
noncomputable abbrev Q2 (a b d e : Int) (x y z : Rat) : Rat := K0.R2 a b d e x y z / N4 a b d e
section
variable {p : Option Addr} {K : PySem.W.Frag} {W : Addr → Prop} {H H0 : Hp} {τ : List Sl} {tas : TA} {E' : XK}
end
end D
end

section
set_option Elab.async false
set_option linter.all false
set_option maxRecDepth 100000
set_option maxHeartbeats 4000000
set_option exponentiation.threshold 200000
namespace D
open PySem L2 K0 Num
open PySem.W (Dat)
noncomputable def MM (p q r x y z w v : Rat) : Rat := v - 2 * (p * x + q * y + r * z) / (p * p + q * q + r * r) * w
noncomputable abbrev M1 (p q r : Int) (x y z : Rat) : Rat := MM p q r x y z p x
end D
end

section
set_option Elab.async false
set_option linter.all false
set_option maxRecDepth 100000
set_option maxHeartbeats 4000000
set_option exponentiation.threshold 200000
namespace D
open PySem PySem.Spec PyProof.Rows L2 K0 Num
open PySem.W (Dat)
section
variable {X : Cx} {pos : Pos}
end
section
variable {p : Option Addr} {K : PySem.W.Frag} {te : TE} {τ : List Sl} {u : TS} {nx : List Sl → Prop} {rt : Sl → Prop}
end
end D
end

section
set_option Elab.async false
set_option linter.all false
set_option maxRecDepth 100000
set_option maxHeartbeats 4000000
set_option exponentiation.threshold 200000
namespace D
open PySem L2 K0 Num
open PySem.W (Dat)
section
variable {a b d e : Int} {x y z u v w : Rat}
end
section
variable {p : Option Addr} {K : PySem.W.Frag} {W : Addr → Prop} {H H0 : Hp} {τ : List Sl} {tas : TA} {E' : XK}
end
section
variable {a b d e p q r s : Int} {x y z : Rat}
end
end D
end

section
set_option Elab.async false
set_option linter.all false
set_option maxRecDepth 100000
set_option maxHeartbeats 4000000
set_option exponentiation.threshold 200000
namespace D
open PySem L2 K0 Num
open PySem.W (Dat)
noncomputable def iOr (a b : TI) : TI := fun σ H R => a σ H R ∨ b σ H R
theorem zi_or {X : Cx} {tg e : Expr} {a b : TI} (ha : ZI X tg e a) (hb : ZI X tg e b) : ZI X tg e (iOr a b) := ⟨fun pins s σ H R I h => h.elim (fun z => ha.out pins s σ H R I z) fun z => hb.out pins s σ H R I z⟩
section
variable {p : Option Addr} {K : PySem.W.Frag} {W : Addr → Prop} {H H0 : Hp} {τ : List Sl} {tas : TA} {E' : XK} {ds : List Dat} {a b : TI} {te : TE}
theorem Wk.orL (h : Wk p K a τ ds) : Wk p K (iOr a b) τ ds := fun W L σ H R r o q => .inl (h W L σ H R r o q)
theorem Wk.orR (h : Wk p K b τ ds) : Wk p K (iOr a b) τ ds := fun W L σ H R r o q => .inr (h W L σ H R r o q)
end
end D
end

section
set_option Elab.async false
set_option linter.all false
set_option maxRecDepth 100000
set_option maxHeartbeats 4000000
set_option exponentiation.threshold 200000
namespace D
open PySem L2 K0 Num
open PySem.W (Dat)
section
variable {p q r s t u : Int} {x y z x' y' z' : Rat}
end
end D
namespace D
open PySem L2 K0 Num
open PySem.W (Dat)
end D
end

section
set_option Elab.async false
set_option linter.all false
set_option maxRecDepth 100000
set_option maxHeartbeats 4000000
set_option exponentiation.threshold 200000
namespace D
open PySem L2 K0 Num
open PySem.W (Dat)
noncomputable def ftR (k l N v D w c : Rat) : Rat := (k * (N * v - D * w) + l * c) / (2 * k * N)
noncomputable abbrev F1 (p q r k l : Int) (x y z : Rat) : Rat := ftR k l ((p : Rat) * p + q * q + r * r) x (p * x + q * y + r * z) p (q * z - r * y)
noncomputable abbrev F2 (p q r k l : Int) (x y z : Rat) : Rat := ftR k l ((p : Rat) * p + q * q + r * r) y (p * x + q * y + r * z) q (r * x - p * z)
noncomputable abbrev F3 (p q r k l : Int) (x y z : Rat) : Rat := ftR k l ((p : Rat) * p + q * q + r * r) z (p * x + q * y + r * z) r (p * y - q * x)
noncomputable abbrev sl (p q r : Int) (x y z : Rat) : Rat := ((p : Rat) * x + q * y + r * z) / ((p : Rat) * p + q * q + r * r)
end D
end

section
set_option Elab.async false
set_option linter.all false
set_option maxRecDepth 100000
set_option maxHeartbeats 4000000
namespace L2
open PySem PySem.Spec PyProof.Rows
noncomputable def SI (b : Bool) (h : Heap) (it l : Addr) (i : Nat) : Prop := match b with | true => h.IsListIter it l i | false => h.IsTupleIter it l i
noncomputable def SQ (b : Bool) (h : Heap) (l : Addr) (xs : Array Value) : Prop := match b with | true => h.IsList l xs | false => h.IsTuple l xs
theorem SI.extBut {b : Bool} {h h' : Heap} {it l c : Addr} {i : Nat} (s : SI b h it l i) (e : Heap.ExtBut c h h') (n : it ≠ c) : SI b h' it l i := by
  cases b
  · exact Heap.IsTupleIter.extBut s e n
  · exact Heap.IsListIter.extBut s e n
theorem SQ.extBut {b : Bool} {h h' : Heap} {l c : Addr} {xs : Array Value} (s : SQ b h l xs) (e : Heap.ExtBut c h h') (n : l ≠ c) : SQ b h' l xs := by
  cases b
  · exact Heap.IsTuple.extBut s e n
  · exact Heap.IsList.extBut s e n
theorem SI.at {b : Bool} {h h' : Heap} {it l : Addr} {i : Nat} (s : SI b h it l i) (e : ∀ o, h.get? it = some o → h'.get? it = some o) : SI b h' it l i := by
  cases b
  · exact Heap.IsTupleIter.at s e
  · exact Heap.IsListIter.at s e
theorem SQ.at {b : Bool} {h h' : Heap} {l : Addr} {xs : Array Value} (s : SQ b h l xs) (e : ∀ o, h.get? l = some o → h'.get? l = some o) : SQ b h' l xs := by
  cases b
  · exact Heap.IsTuple.at s e
  · exact Heap.IsList.at s e
theorem SI.ob {b : Bool} {h : Heap} {it l : Addr} {i : Nat} (s : SI b h it l i) : ∃ o, h.get? it = some o ∧ ∃ vs, o.data = .fields vs := by
  cases b
  · obtain ⟨o, h1, _, h2⟩ := s; exact ⟨o, h1, _, h2⟩
  · obtain ⟨o, h1, _, h2⟩ := s; exact ⟨o, h1, _, h2⟩
theorem SQ.lt {b : Bool} {h : Heap} {l : Addr} {xs : Array Value} (s : SQ b h l xs) : l < h.objs.size := by
  cases b
  · obtain ⟨o, h1, _⟩ := s; exact Heap.lt_size h1
  · obtain ⟨o, h1, _⟩ := s; exact Heap.lt_size h1
section
variable {prog : Program} {w : World} {A : Around} {E : Value → Shared → Prop} {s : Shared}
theorem siNext {b : Bool} {it t : Addr} {i : Nat} {its : Array Value} {x : Value} {Q : Value → Shared → Prop} (hit : SI b s.heap it t i) (ht : SQ b s.heap t its) (hx : its[i]? = some x)
    (k : ∀ g, SI b g it t (i + 1) → Heap.SameBut it s.heap g → Q x { s with heap := g }) : wpAny (model prog w) A (Builtin.SmallTypes.nextOf (.ref it)) Q E s := by
  cases b
  · exact tupNext hit ht hx k
  · exact wpAny_nextOf_list_item hit ht hx k
theorem siEnd {b : Bool} {it t : Addr} {i : Nat} {its : Array Value} {Q : Value → Shared → Prop} (hh : A.handled = none) (hit : SI b s.heap it t i) (ht : SQ b s.heap t its) (hx : its[i]? = none)
    (k : ∀ g e, Heap.ExtBut it s.heap g → (∃ o, g.get? e = some o ∧ o.cls = .type "StopIteration") → E (.ref e) { s with heap := g }) : wpAny (model prog w) A (Builtin.SmallTypes.nextOf (.ref it)) Q E s := by
  cases b
  · exact tupEnd hh hit ht hx k
  · exact wpAny_nextOf_list_end hh hit ht hx k
variable {b1 b2 : Bool}
structure ZipG (b1 b2 : Bool) (h : Heap) (z a b i1 i2 l1 l2 : Addr) (xs ys : Array Value) (k : Nat) (f : Value) : Prop where
  z : IsZip h z a b f
  a : IsPair h a (.ref i1) (.ref i2)
  b : ∃ u v, IsPair h b u v
  i1 : SI b1 h i1 l1 k
  i2 : SI b2 h i2 l2 k
  l1 : SQ b1 h l1 xs
  l2 : SQ b2 h l2 ys
theorem zipNextG {z a b i1 i2 l1 l2 : Addr} {k : Nat} {xs ys : Array Value} {x y : Value} {Q : Option Value → Shared → Prop} (D : ZipApart z a b i1 i2 l1 l2) (Z : ZipG b1 b2 s.heap z a b i1 i2 l1 l2 xs ys k .none) (hx : xs[k]? = some x) (hy : ys[k]? = some y)
    (kq : ∀ g, ZipG b1 b2 g z a b i1 i2 l1 l2 xs ys (k + 1) (rawInt s.heap.objs.size) → IsPair g s.heap.objs.size x y → (∀ c o, c ≠ z → c ≠ b → c ≠ i1 → c ≠ i2 → s.heap.get? c = some o → g.get? c = some o) → Q (some (.ref s.heap.objs.size)) { s with heap := g }) :
    wpAny (model prog w) A (pyNext (.ref z)) Q E s := by
  obtain ⟨hz, ha, ⟨u, v, hb⟩, h1, h2, t1, t2⟩ := Z
  have hT : s.TypeIs (.ref z) "zip" := ⟨_, hz, rfl⟩
  unfold pyNext
  refine wpAny_bind (wpAny_attempt (wpAny_callSpecial?_slot (name := Str.ofString "__next__") hT F.slot_zip_next (wpAny_call_entry F.slot_zip_next hT F.entry_zip_next ?_ (F.args_zip_next_1 _))))
  show wpAny _ _ (field (.ref z) 2 >>= _) _ _ _; refine wpAny_bind (wpAny_field hz rfl (x := .bool false) rfl ?_); show wpAny _ _ (field (.ref z) 3 >>= _) _ _ _
  refine wpAny_bind (wpAny_field hz rfl (x := .ref a) rfl ?_); refine wpAny_bind (wpAny_seqItems ha rfl ?_); show wpAny _ _ (Builtin.SmallTypes.ownedTupleIsFree (.ref z) >>= _) _ _ _
  refine wpAny_bind ?_; unfold Builtin.SmallTypes.ownedTupleIsFree; refine wpAny_bind (wpAny_field hz rfl (x := .none) rfl (wpAny_pure ?_))
  simp only [if_true]; refine wpAny_bind (wpAny_rule ?_); refine wpAny_bind (wpAny_field hz rfl (x := .ref b) rfl ?_)
  refine wpAny_bind (wpAny_setField_rec hz (by simp) fun g₁ e₁ s₁ => ?_)
  replace e₁ : IsZip g₁ z a b .ellipsis := e₁
  refine wpAny_bind ?_; simp only [List.zipIdx_cons, List.zipIdx_nil, List.forIn_cons, List.forIn_nil]
  refine wpAny_bind (wpAny_bind (wpAny_onRaise ?_)); show wpAny _ _ (Builtin.SmallTypes.nextOf (.ref i1) >>= _) _ _ _
  refine wpAny_bind (siNext (h1.extBut s₁.extBut D.i1z) (t1.extBut s₁.extBut D.l1z) hx fun g₂ f₂ s₂ => wpAny_pure ?_)
  have b₂ : IsPair g₂ b u v := s₂.extBut _ _ D.TOi1 (s₁.extBut _ _ D.TOz hb)
  refine wpAny_bind (wpAny_seqItems b₂ rfl ?_); refine wpAny_bind (wpAny_updateSeq_pair b₂ fun g₃ b₃ s₃ => ?_)
  replace b₃ : IsPair g₃ b x v := b₃
  refine wpAny_bind (wpAny_letGo (wpAny_pure ?_)); refine wpAny_bind (wpAny_bind (wpAny_onRaise ?_)); show wpAny _ _ (Builtin.SmallTypes.nextOf (.ref i2) >>= _) _ _ _
  refine wpAny_bind (siNext (((h2.extBut s₁.extBut D.i2z).extBut s₂.extBut D.i12.symm).extBut s₃.extBut D.TOi2.symm) (((t2.extBut s₁.extBut D.l2z).extBut s₂.extBut D.l2i1).extBut s₃.extBut D.l2TO) hy fun g₄ f₄ s₄ => wpAny_pure ?_)
  have b₄ : IsPair g₄ b x v := s₄.extBut _ _ D.TOi2 b₃
  refine wpAny_bind (wpAny_seqItems b₄ rfl ?_); refine wpAny_bind (wpAny_updateSeq_pair b₄ fun g₅ b₅ s₅ => ?_)
  replace b₅ : IsPair g₅ b x y := b₅
  refine wpAny_bind (wpAny_letGo (wpAny_pure (wpAny_pure ?_))); refine wpAny_bind (wpAny_seqItems b₅ rfl ?_); refine wpAny_bind (wpAny_newTuple ?_)
  have sz : g₅.objs.size = s.heap.objs.size := by rw [s₅.1, s₄.1, s₃.1, s₂.1, s₁.1]
  have e₅ : IsZip g₅ z a b .ellipsis := s₅.extBut _ _ D.TOz.symm (s₄.extBut _ _ D.i2z.symm (s₃.extBut _ _ D.TOz.symm (s₂.extBut _ _ D.i1z.symm e₁)))
  have k₅ : ∀ c o, c ≠ z → c ≠ b → c ≠ i1 → c ≠ i2 → s.heap.get? c = some o → g₅.get? c = some o := fun c o c1 c2 c3 c4 e => s₅.extBut _ _ c2 (s₄.extBut _ _ c4 (s₃.extBut _ _ c2 (s₂.extBut _ _ c3 (s₁.extBut _ _ c1 e))))
  have m₁ : SI b1 g₅ i1 l1 (k + 1) := ((f₂.extBut s₃.extBut D.TOi1.symm).extBut s₄.extBut D.i12).extBut s₅.extBut D.TOi1.symm
  have m₂ : SI b2 g₅ i2 l2 (k + 1) := f₄.extBut s₅.extBut D.TOi2.symm
  have lz : z < g₅.objs.size := Heap.lt_size e₅
  show wpAny _ _ (Builtin.SmallTypes.ownedTupleHandOut (.ref z) (.ref g₅.objs.size) >>= _) _ _ _; refine wpAny_bind ?_; unfold Builtin.SmallTypes.ownedTupleHandOut
  have e₆ : IsZip (g₅.push { cls := .type "tuple", data := .seq #[x, y] }) z a b .ellipsis := Heap.get?_push_of_some _ e₅
  refine wpAny_bind (wpAny_setField_rec e₆ (by simp) fun g₇ e₇ s₇ => ?_)
  replace e₇ : IsZip g₇ z a b (rawInt g₅.objs.size) := e₇
  refine wpAny_setField_rec e₇ (by simp) fun g₈ e₈ s₈ => ?_
  replace e₈ : IsZip g₈ z a b (rawInt g₅.objs.size) := e₈
  have up : ∀ c o, c ≠ z → g₅.get? c = some o → g₈.get? c = some o := fun c o c1 e => s₈.extBut _ _ c1 (s₇.extBut _ _ c1 (Heap.get?_push_of_some _ e))
  have p₈ : IsPair g₈ g₅.objs.size x y := s₈.extBut _ _ (Nat.ne_of_gt lz) (s₇.extBut _ _ (Nat.ne_of_gt lz) (Heap.get?_push_size _ rfl))
  rw [sz] at e₈ p₈
  refine wpAny_pure ⟨_, rfl, wpAny_pure ?_⟩
  show Q (some (.ref g₅.objs.size)) _; rw [sz]
  have all : ∀ c o, c ≠ z → c ≠ b → c ≠ i1 → c ≠ i2 → s.heap.get? c = some o → g₈.get? c = some o := fun c o c1 c2 c3 c4 e => up c o c1 (k₅ c o c1 c2 c3 c4 e)
  exact kq g₈ ⟨e₈, all _ _ D.TIz D.TITO D.TIi1 D.TIi2 ha, ⟨_, _, up _ _ D.TOz b₅⟩, m₁.at fun o e => up _ o D.i1z e, m₂.at fun o e => up _ o D.i2z e, t1.at fun o e => all _ o D.l1z D.l1TO D.l1i1 D.l1i2 e, t2.at fun o e => all _ o D.l2z D.l2TO D.l2i1 D.l2i2 e⟩ p₈ all
theorem zipEndG {z a b i1 i2 l1 l2 : Addr} {k : Nat} {xs ys : Array Value} {Q : Option Value → Shared → Prop} (hh : A.handled = none) (D : ZipApart z a b i1 i2 l1 l2) (Z : ZipG b1 b2 s.heap z a b i1 i2 l1 l2 xs ys k .none) (hx : xs[k]? = none)
    (kq : ∀ g, (∀ c o, c ≠ z → c ≠ b → c ≠ i1 → c ≠ i2 → s.heap.get? c = some o → g.get? c = some o) → Q none { s with heap := g }) : wpAny (model prog w) A (pyNext (.ref z)) Q E s := by
  obtain ⟨hz, ha, ⟨u, v, hb⟩, h1, h2, t1, t2⟩ := Z
  have hT : s.TypeIs (.ref z) "zip" := ⟨_, hz, rfl⟩
  unfold pyNext
  refine wpAny_bind (wpAny_attempt (wpAny_callSpecial?_slot (name := Str.ofString "__next__") hT F.slot_zip_next (wpAny_call_entry F.slot_zip_next hT F.entry_zip_next ?_ (F.args_zip_next_1 _))))
  show wpAny _ _ (field (.ref z) 2 >>= _) _ _ _; refine wpAny_bind (wpAny_field hz rfl (x := .bool false) rfl ?_); show wpAny _ _ (field (.ref z) 3 >>= _) _ _ _
  refine wpAny_bind (wpAny_field hz rfl (x := .ref a) rfl ?_); refine wpAny_bind (wpAny_seqItems ha rfl ?_); show wpAny _ _ (Builtin.SmallTypes.ownedTupleIsFree (.ref z) >>= _) _ _ _
  refine wpAny_bind ?_; unfold Builtin.SmallTypes.ownedTupleIsFree; refine wpAny_bind (wpAny_field hz rfl (x := .none) rfl (wpAny_pure ?_))
  simp only [if_true]; refine wpAny_bind (wpAny_rule ?_); refine wpAny_bind (wpAny_field hz rfl (x := .ref b) rfl ?_)
  refine wpAny_bind (wpAny_setField_rec hz (by simp) fun g₁ e₁ s₁ => ?_)
  replace e₁ : IsZip g₁ z a b .ellipsis := e₁
  refine wpAny_bind ?_; simp only [List.zipIdx_cons, List.zipIdx_nil, List.forIn_cons, List.forIn_nil]
  refine wpAny_bind (wpAny_bind (wpAny_onRaise ?_)); show wpAny _ _ (Builtin.SmallTypes.nextOf (.ref i1) >>= _) _ _ _
  refine wpAny_bind (siEnd hh (h1.extBut s₁.extBut D.i1z) (t1.extBut s₁.extBut D.l1z) hx fun g₂ e s₂ he => ?_)
  obtain ⟨oe, he1, he2⟩ := he
  have e₂ : IsZip g₂ z a b .ellipsis := s₂ _ _ D.i1z.symm e₁
  have hez : e ≠ z := fun x => by subst x; rw [e₂] at he1; cases he1; simp at he2
  refine wpAny_setField_rec e₂ (by simp) fun g₃ _ s₃ => ?_
  refine wpAny_bind (wpAny_isInstance (T := "StopIteration") (b := true) ⟨oe, s₃.extBut _ _ hez he1, he2⟩ isSubtype_stop ?_)
  exact wpAny_pure (kq _ fun c o c1 _ c3 _ x => s₃.extBut _ _ c1 (s₂ _ _ c3 (s₁.extBut _ _ c1 x)))
noncomputable abbrev zl (h : Heap) (l : Addr) : Heap := h.push { cls := .type "list_iterator", data := .fields #[.ref l, .int 0 0] }
noncomputable abbrev zg (b : Bool) (h : Heap) (l : Addr) : Heap := h.push { cls := .type (if b then "list_iterator" else "tuple_iterator"), data := .fields #[.ref l, .int 0 0] }
theorem zipNewMeetsG (l1 l2 : Addr) (xs ys : Array Value) :
    Meets (Builtin.«zip.__new__» ⟨[.type "zip", .ref l1, .ref l2], []⟩) (fun _ R s => SQ b1 s.heap l1 xs ∧ SQ b2 s.heap l2 ys ∧ ∀ g, g = (((zg b2 (zg b1 s.heap l1) l2).push { cls := .type "tuple", data := .seq #[.ref s.heap.objs.size, .ref (zg b1 s.heap l1).objs.size] }).push { cls := .type "tuple", data := .seq #[.none, .none] }) →
      R (.ok (.ret (.ref g.objs.size))) { s with heap := g.push { cls := .type "zip", data := .fields #[.none, .bool false, .bool false, .ref (zg b2 (zg b1 s.heap l1) l2).objs.size, .ref ((zg b2 (zg b1 s.heap l1) l2).push { cls := .type "tuple", data := .seq #[.ref s.heap.objs.size, .ref (zg b1 s.heap l1).objs.size] }).objs.size] } }) :=
  .of_wp fun prog w A R s h => by
    obtain ⟨hp, g, d, tk, os⟩ := s; obtain ⟨q1, q2, h⟩ := h
    have hsub := sub_zip
    cases b1 <;> cases b2
    · have L1 : Heap.IsTuple (Shared.heap ⟨hp, g, d, tk, os⟩) l1 xs := q1
      have L2 : Heap.IsTuple (Shared.heap ⟨zh hp l1, g, d, tk, os⟩) l2 ys := Heap.IsTuple.at q2 fun o e => Heap.get?_push_of_some _ e
      wp_walk using wpAny_pyIter_tuple L1, wpAny_pyIter_tuple L2
      exact ⟨_, rfl, h _ rfl⟩
    · have L1 : Heap.IsTuple (Shared.heap ⟨hp, g, d, tk, os⟩) l1 xs := q1
      have L2 : Heap.IsList (Shared.heap ⟨zh hp l1, g, d, tk, os⟩) l2 ys := Heap.IsList.at q2 fun o e => Heap.get?_push_of_some _ e
      wp_walk using wpAny_pyIter_tuple L1, wpAny_pyIter_list L2
      exact ⟨_, rfl, h _ rfl⟩
    · have L1 : Heap.IsList (Shared.heap ⟨hp, g, d, tk, os⟩) l1 xs := q1
      have L2 : Heap.IsTuple (Shared.heap ⟨zl hp l1, g, d, tk, os⟩) l2 ys := Heap.IsTuple.at q2 fun o e => Heap.get?_push_of_some _ e
      wp_walk using wpAny_pyIter_list L1, wpAny_pyIter_tuple L2
      exact ⟨_, rfl, h _ rfl⟩
    · have L1 : Heap.IsList (Shared.heap ⟨hp, g, d, tk, os⟩) l1 xs := q1
      have L2 : Heap.IsList (Shared.heap ⟨zl hp l1, g, d, tk, os⟩) l2 ys := Heap.IsList.at q2 fun o e => Heap.get?_push_of_some _ e
      wp_walk using wpAny_pyIter_list L1, wpAny_pyIter_list L2
      exact ⟨_, rfl, h _ rfl⟩
theorem siNew {b : Bool} {h : Heap} {it l : Addr} (e : h.get? it = some { cls := .type (if b then "list_iterator" else "tuple_iterator"), data := .fields #[.ref l, .int 0 0] }) : SI b h it l 0 := by
  cases b
  · exact ⟨_, e, rfl, rfl⟩
  · exact ⟨_, e, rfl, rfl⟩
theorem callZipG {l1 l2 : Addr} {xs ys : Array Value} {Q : Value → Shared → Prop} (h1 : SQ b1 s.heap l1 xs) (h2 : SQ b2 s.heap l2 ys)
    (k : ∀ g, ZipG b1 b2 g (s.heap.objs.size + 4) (s.heap.objs.size + 2) (s.heap.objs.size + 3) s.heap.objs.size (s.heap.objs.size + 1) l1 l2 xs ys 0 .none → (∀ c o, s.heap.get? c = some o → g.get? c = some o) → Q (.ref (s.heap.objs.size + 4)) { s with heap := g }) :
    wpAny (model prog w) A (call (.type "zip") [.ref l1, .ref l2]) Q E s := by
  refine callType_new F.called_zip (by decide) (F.typeCall_zip_2 _ _) (F.newCall_zip_2 _ _) (fun obj => F.args_object_init_3 obj _ _) F.entry_zip_new (zipNewMeetsG l1 l2 xs ys) ⟨h1, h2, fun g hg => ?_⟩
  generalize e1 : zg b1 s.heap l1 = a1 at *
  generalize e2 : zg b2 a1 l2 = a2 at *
  generalize e3 : a2.push { cls := .type "tuple", data := .seq #[.ref s.heap.objs.size, .ref a1.objs.size] } = a3 at *
  have n1 : a1.objs.size = s.heap.objs.size + 1 := by rw [← e1]; exact Heap.size_push ..
  have n2 : a2.objs.size = s.heap.objs.size + 2 := by rw [← e2, Heap.size_push, n1]
  have n3 : a3.objs.size = s.heap.objs.size + 3 := by rw [← e3, Heap.size_push, n2]
  have n4 : g.objs.size = s.heap.objs.size + 4 := by rw [hg, Heap.size_push, n3]
  have up1 : ∀ c o, s.heap.get? c = some o → a1.get? c = some o := fun c o x => e1 ▸ Heap.get?_push_of_some _ x
  have up2 : ∀ c o, a1.get? c = some o → a2.get? c = some o := fun c o x => e2 ▸ Heap.get?_push_of_some _ x
  have up3 : ∀ c o, a2.get? c = some o → a3.get? c = some o := fun c o x => e3 ▸ Heap.get?_push_of_some _ x
  have up4 : ∀ c o, a3.get? c = some o → g.get? c = some o := fun c o x => hg ▸ Heap.get?_push_of_some _ x
  have x1 : a1.get? s.heap.objs.size = some { cls := .type (if b1 then "list_iterator" else "tuple_iterator"), data := .fields #[.ref l1, .int 0 0] } := e1 ▸ Heap.get?_push_size _ rfl
  have x2 : a2.get? (s.heap.objs.size + 1) = some { cls := .type (if b2 then "list_iterator" else "tuple_iterator"), data := .fields #[.ref l2, .int 0 0] } := by rw [← n1]; exact e2 ▸ Heap.get?_push_size _ rfl
  have x3 : a3.get? (s.heap.objs.size + 2) = some { cls := .type "tuple", data := .seq #[.ref s.heap.objs.size, .ref a1.objs.size] } := by rw [← n2]; exact e3 ▸ Heap.get?_push_size _ rfl
  have x4 : g.get? (s.heap.objs.size + 3) = some { cls := .type "tuple", data := .seq #[.none, .none] } := by rw [← n3]; exact hg ▸ Heap.get?_push_size _ rfl
  have x5 : (g.push { cls := .type "zip", data := .fields #[.none, .bool false, .bool false, .ref a2.objs.size, .ref a3.objs.size] }).get? (s.heap.objs.size + 4) = some { cls := .type "zip", data := .fields #[.none, .bool false, .bool false, .ref a2.objs.size, .ref a3.objs.size] } := by rw [← n4]; exact Heap.get?_push_size _ rfl
  rw [n2, n3] at x5
  rw [n1] at x3
  show _ ∧ _
  rw [n4, n2, n3]
  have all : ∀ c o, s.heap.get? c = some o → (g.push { cls := .type "zip", data := .fields #[.none, .bool false, .bool false, .ref (s.heap.objs.size + 2), .ref (s.heap.objs.size + 3)] }).get? c = some o := fun c o x => Heap.get?_push_of_some _ (up4 _ _ (up3 _ _ (up2 _ _ (up1 _ _ x))))
  refine ⟨⟨_, x5, rfl⟩, k _ ⟨x5, Heap.get?_push_of_some _ (up4 _ _ x3), ⟨_, _, Heap.get?_push_of_some _ x4⟩, siNew (Heap.get?_push_of_some _ (up4 _ _ (up3 _ _ (up2 _ _ x1)))), siNew (Heap.get?_push_of_some _ (up4 _ _ (up3 _ _ x2))), h1.at fun o e => all _ o e, h2.at fun o e => all _ o e⟩ all⟩
end
end L2
end

section
set_option Elab.async false
set_option linter.all false
set_option maxRecDepth 100000
set_option maxHeartbeats 4000000
namespace L2
open PySem PySem.Spec PyProof.Rows
noncomputable def SX (b : Bool) (K : PySem.W.Frag) (H : Hp) (a : Addr) (xs : List V) : Prop := match b with | true => SqL K H a xs | false => SqT K H a xs
theorem Inv.sx {X : Cx} {pins : List (Addr × Obj)} {σ : St} {H : Hp} {s : Shared} {b : Bool} {a : Addr} {xs : List V} (I : Inv X pins σ H s) (h : SX b X.K H a xs) : ∃ its : List Value, Vals xs its ∧ SQ b s.heap a its.toArray ∧ xs.length ≤ sizeLine := by
  cases b
  · obtain ⟨its, rv, p, hz⟩ := I.tuple h
    exact ⟨its, rv, p, hz⟩
  · obtain ⟨its, rv, p, hz⟩ := I.list h
    exact ⟨its, rv, p.isList, hz⟩
theorem Inv.sx_inj {X : Cx} {pins : List (Addr × Obj)} {σ : St} {H : Hp} {s : Shared} {b : Bool} {a : Addr} {xs ys : List V} (I : Inv X pins σ H s) (h : SX b X.K H a xs) (h' : SX b X.K H a ys) : xs = ys := by
  cases b
  · exact I.tuple_inj h h'
  · exact I.list_inj h h'
noncomputable def ItzG (b1 b2 : Bool) (K : PySem.W.Frag) (l1 l2 : Addr) : It :=
  ⟨fun i H => ∃ xs ys x y, SX b1 K H l1 xs ∧ SX b2 K H l2 ys ∧ xs[i]? = some x ∧ ys[i]? = some y,
   fun i H v H' => ∃ p, H p = none ∧ v = .ref p ∧ ∀ xs ys x y, SX b1 K H l1 xs → SX b2 K H l2 ys → xs[i]? = some x → ys[i]? = some y → H' = upd H p (.tup [x, y]),
   fun i H => ∃ xs, SX b1 K H l1 xs ∧ xs.length ≤ i ∧ ∃ ys, SX b2 K H l2 ys⟩
noncomputable def zntG (b1 b2 : Bool) (z a b i1 i2 l1 l2 : Addr) (i : Nat) (h : Heap) : Prop := IsZip h z a b .none ∧ IsPair h a (.ref i1) (.ref i2) ∧ (∃ u v, IsPair h b u v) ∧ SI b1 h i1 l1 i ∧ SI b2 h i2 l2 i
theorem turn_zipG {b1 b2 : Bool} {P : Program} {w : World} {K : PySem.W.Frag} {elts : List Expr} {x1} {pos : Pos} {z a b i1 i2 l1 l2 : Addr} (D : ZipApart z a b i1 i2 l1 l2) : Turn P w K (.Tuple elts x1 pos) (ItzG b1 b2 K l1 l2) [z, a, b, i1, i2] z (zntG b1 b2 z a b i1 i2 l1 l2) where
  mem := by simp
  obj := fun i h st c hc => by
    obtain ⟨h1, h2, ⟨u, v, h3⟩, h4, h5⟩ := st
    obtain ⟨o4, h4, _, d4⟩ := h4.ob
    obtain ⟨o5, h5, _, d5⟩ := h5.ob
    simp only [List.mem_cons, List.mem_nil_iff, or_false] at hc
    rcases hc with rfl | rfl | rfl | rfl | rfl
    · exact ⟨_, h1, fun v z => by cases z⟩
    · exact ⟨_, h2, fun v z => by cases z⟩
    · exact ⟨_, h3, fun v z => by cases z⟩
    · exact ⟨_, h4, fun v z => by rw [d4] at z; cases z⟩
    · exact ⟨_, h5, fun v z => by rw [d5] at z; cases z⟩
  keep := fun i h h' st k => by
    obtain ⟨h1, h2, ⟨u, v, h3⟩, h4, h5⟩ := st
    exact ⟨k _ (by simp) _ h1, k _ (by simp) _ h2, ⟨u, v, k _ (by simp) _ h3⟩, h4.at fun o e => k _ (by simp) o e, h5.at fun o e => k _ (by simp) o e⟩
  item := by
    intro X hP hw hK hc i pins s σ H E I hf st hg
    subst hP hw hK
    obtain ⟨xs, ys, x, y, q1, q2, hx, hy⟩ := hg
    obtain ⟨its, rv, p, hz⟩ := I.sx q1
    obtain ⟨its', rv', p', hz'⟩ := I.sx q2
    obtain ⟨u, hu, ru⟩ := rv.get hx
    obtain ⟨u', hu', ru'⟩ := rv'.get hy
    obtain ⟨h1, h2, h3, h4, h5⟩ := id st
    refine zipNextG D ⟨h1, h2, h3, h4, h5, p, p'⟩ (x := u) (y := u') (by simpa using hu) (by simpa using hu') fun g Z pr all => ⟨_, rfl, ?_⟩
    refine wpAny_letOwnedTupleGo_zip (s := { s with heap := g }) Z.z fun g2 e2 s2 => ?_
    have hn : H s.heap.objs.size = none := I.hok.fresh (Nat.le_refl _)
    have lt : ∀ c ∈ [z, a, b, i1, i2], c < s.heap.objs.size := fun c hc => by
      have := (hf c hc)
      obtain ⟨w1, w2, ⟨_, _, w3⟩, w4, w5⟩ := st
      obtain ⟨_, w4, _⟩ := w4.ob
      obtain ⟨_, w5, _⟩ := w5.ob
      simp only [List.mem_cons, List.mem_nil_iff, or_false] at hc
      rcases hc with rfl | rfl | rfl | rfl | rfl
      · exact Heap.lt_size w1
      · exact Heap.lt_size w2
      · exact Heap.lt_size w3
      · exact Heap.lt_size w4
      · exact Heap.lt_size w5
    have kp : ∀ c o, c ∉ [z, a, b, i1, i2] → s.heap.get? c = some o → g2.get? c = some o := fun c o hc e => by
      simp only [List.mem_cons, List.mem_nil_iff, or_false, not_or] at hc
      exact s2.extBut _ _ hc.1 (all c o hc.1 hc.2.2.1 hc.2.2.2.1 hc.2.2.2.2 e)
    have trk : ∀ c u, H c = some u → c ∉ [z, a, b, i1, i2] := fun c u e hc => by rw [(hf c hc).1] at e; cases e
    have pr2 : g2.get? s.heap.objs.size = some { cls := .type "tuple", data := .seq #[u, u'] } := s2.extBut _ _ (Nat.ne_of_gt (lt z (by simp))) pr
    have I2 : Inv X pins σ (upd H s.heap.objs.size (.tup [x, y])) { s with heap := g2 } := by
      refine I.step (g' := s.gens) (d' := s.drawn) (t' := s.toks) (ch := [z, a, b, i1, i2]) (fun c hc => ?_) (fun c o _ _ hc e _ => kp c o hc e) (fun c o _ _ hc e _ => ⟨o.slots, kp c o hc e⟩) (fun c o _ e n => ?_)
        (fun c o hc e => ⟨o, kp c o hc e⟩) (fun c vs e => ?_) (fun c o vs e => ?_) (fun c ps e => ⟨#[], ?_⟩) (fun m hm => ?_) (fun c v e => ?_) I.bare
      · obtain ⟨f0, f1, f2, f3, f4, f5⟩ := hf c hc
        exact ⟨f3, f1, f4, f5⟩
      · rw [upd_ne (Nat.ne_of_lt (Heap.lt_size e))]; exact n
      · rw [upd_ne (ne_of_none e hn)]; exact e
      · rw [upd_ne (ne_of_none e hn)]; exact e
      · rw [upd_ne (ne_of_none e hn), e]; simp
      · obtain ⟨o, es, ep, ho, r⟩ := hm
        exact ⟨o, es, ep, kp _ o (fun hc => (hf _ hc).2.1 rfl) ho, r⟩
      · by_cases hb : c = s.heap.objs.size
        · subst hb
          rw [upd_same] at e; cases e
          exact ⟨by show 2 ≤ sizeLine; decide, [u, u'], .cons ru (.cons ru' .nil), ⟨_, pr2, rfl, _, rfl⟩⟩
        · rw [upd_ne hb] at e
          refine (I.hok c v e).stay (fun d o hd q => kp d o ?_ q) (fun d q => by rw [upd_ne (ne_of_none q hn)]; exact q) fun d ts q => by rw [upd_ne (ne_of_none q hn)]; exact q
          rcases hd with rfl | hd
          · exact trk _ _ e
          · exact trk _ _ hd
    refine ⟨.ref s.heap.objs.size, _, I2, rfl, ⟨_, hn, rfl, fun xs' ys' x' y' a1 a2 a3 a4 => ?_⟩, ⟨e2, s2.extBut _ _ D.TIz Z.a, ?_, Z.i1.extBut s2.extBut D.i1z, Z.i2.extBut s2.extBut D.i2z⟩, fun c hc => ?_⟩
    · rw [I.sx_inj a1 q1, hx] at a3
      rw [I.sx_inj a2 q2, hy] at a4
      cases a3; cases a4; rfl
    · obtain ⟨v1, v2, e3⟩ := Z.b
      exact ⟨v1, v2, s2.extBut _ _ D.TOz e3⟩
    · rw [upd_ne (Nat.ne_of_lt (lt c hc))]; exact (hf c hc).1
  done := by
    intro X hP hw hK hc i pins s σ H E I hf st hg
    subst hP hw hK
    obtain ⟨xs, q1, hx, ys, q2⟩ := hg
    obtain ⟨its, rv, p, hz⟩ := I.sx q1
    obtain ⟨its', rv', p', hz'⟩ := I.sx q2
    obtain ⟨h1, h2, h3, h4, h5⟩ := id st
    have hl := rv.length
    refine zipEndG (I.ok.hd hc) D ⟨h1, h2, h3, h4, h5, p, p'⟩ (by simp; omega) fun g all => ⟨rfl, ?_⟩
    have kp : ∀ c o, c ∉ [z, a, b, i1, i2] → s.heap.get? c = some o → g.get? c = some o := fun c o hc e => by
      simp only [List.mem_cons, List.mem_nil_iff, or_false, not_or] at hc
      exact all c o hc.1 hc.2.2.1 hc.2.2.2.1 hc.2.2.2.2 e
    have trk : ∀ c u, H c = some u → c ∉ [z, a, b, i1, i2] := fun c u e hc => by rw [(hf c hc).1] at e; cases e
    refine I.step (g' := s.gens) (d' := s.drawn) (t' := s.toks) (ch := [z, a, b, i1, i2]) (fun c hc => ?_) (fun c o _ _ hc e _ => kp c o hc e) (fun c o _ _ hc e _ => ⟨o.slots, kp c o hc e⟩) (fun c o _ e n => n)
        (fun c o hc e => ⟨o, kp c o hc e⟩) (fun c vs e => e) (fun c o vs e => e) (fun c ps e => ⟨#[], by rw [e]; simp⟩) (fun m hm => ?_) (fun c v e => ?_) I.bare
    · obtain ⟨f0, f1, f2, f3, f4, f5⟩ := hf c hc
      exact ⟨f3, f1, f4, f5⟩
    · obtain ⟨o, es, ep, ho, r⟩ := hm
      exact ⟨o, es, ep, kp _ o (fun hc => (hf _ hc).2.1 rfl) ho, r⟩
    · refine (I.hok c v e).stay (fun d o hd q => kp d o ?_ q) (fun d q => q) fun d ts q => q
      rcases hd with rfl | hd
      · exact trk _ _ e
      · exact trk _ _ hd
  self := fun _ _ _ _ _ st h => wpAny_pyIter_zip st.1 h
section
variable {X : Cx}
noncomputable def iZipG (b1 b2 : Bool) (K : PySem.W.Frag) (ta : TA) : TI := fun σ H R => ta σ H fun vs H1 => ∃ l1 l2, vs = [.ref l1, .ref l2] ∧ (∃ xs, SX b1 K H1 l1 xs) ∧ (∃ ys, SX b2 K H1 l2 ys) ∧ R (ItzG b1 b2 K l1 l2) H1
theorem pi_zipG {b1 b2 : Bool} {a b : Expr} {ta : TA} {p pos pt : Pos} {elts : List Expr} {x1} (hg : Gl X "zip") (hm : X.mg "zip" = none) (ha : PA X [a, b] ta) (hs : starEach [a, b] X.env = [(false, eval a X.env), (false, eval b X.env)] := by rfl) (hs2 : starEach [b] X.env = [(false, eval b X.env)] := by rfl) :
    PI X (.Tuple elts x1 pt) (.Call (.Name "zip" p) [a, b] [] pos) (iZipG b1 b2 X.K ta) := by
  intro pins s σ H R I h
  refine Call_ (ld_blt I hg hm boot_zip (PyProof.Rows.callWith_type1 (thn (ha pos pins s σ H _ I h) fun us s1 ⟨vs, H1, I1, r1, q1⟩ => ?_) (by rw [hs, hs2]) (by rw [hs2]; rfl)))
  obtain ⟨l1, l2, e, ⟨xs, q1⟩, ⟨ys, q2⟩, q⟩ := q1
  subst e
  cases r1 with
  | cons r rr =>
    cases rr with
    | cons r' rr =>
      cases rr
      cases (show _ = Value.ref l1 from r)
      cases (show _ = Value.ref l2 from r')
      obtain ⟨its, rv, p1, _⟩ := I1.sx q1
      obtain ⟨its', rv', p2, _⟩ := I1.sx q2
      have a1 : l1 < s1.heap.objs.size := p1.lt
      have a2 : l2 < s1.heap.objs.size := p2.lt
      refine callZipG p1 p2 fun g Z all => ?_
      refine wpAny_pyIter_zip (s := { s1 with heap := g }) Z.z ?_
      refine ⟨_, _, _, _, H1, rfl, I1.kept (t' := s1.toks) all, turn_zipG (PyProof.Rows.zipApart_new a1 a2), ⟨Z.z, Z.a, Z.b, Z.i1, Z.i2⟩, fun b hb => ?_, q⟩
      have ge : s1.heap.objs.size ≤ b := by
        simp only [List.mem_cons, List.mem_nil_iff, or_false] at hb
        rcases hb with rfl | rfl | rfl | rfl | rfl
        · exact Nat.le_add_right _ 4
        · exact Nat.le_add_right _ 2
        · exact Nat.le_add_right _ 3
        · exact Nat.le_refl _
        · exact Nat.le_add_right _ 1
      exact I1.fpOk ge (I1.hok.fresh ge)
theorem zi_zipG (b1 b2 : Bool) {ta : TA} {a b : Expr} {p pos pt : Pos} {elts : List Expr} {x1} (hg : Gl X "zip") (hm : X.mg "zip" = none) (ha : ZA X [a, b] ta) (hs : starEach [a, b] X.env = [(false, eval a X.env), (false, eval b X.env)] := by rfl) (hs2 : starEach [b] X.env = [(false, eval b X.env)] := by rfl) :
    ZI X (.Tuple elts x1 pt) (.Call (.Name "zip" p) [a, b] [] pos) (iZipG b1 b2 X.K ta) := ⟨pi_zipG hg hm ha.out hs hs2⟩
end
end L2
end

section
set_option Elab.async false
set_option linter.all false
set_option maxRecDepth 100000
set_option maxHeartbeats 4000000
set_option exponentiation.threshold 200000
namespace D
open PySem L2 K0 Num
open PySem.W (Dat)
noncomputable def sqD (b : Bool) (ds : List Dat) : Dat := match b with | true => .list ds | false => .tuple ds
theorem dz_sx {W : Addr → Prop} {K : PySem.W.Frag} {H : Hp} {v : V} {b : Bool} {ds : List Dat} (h : Dz (fun a => ¬ W a) K H v (sqD b ds)) : ∃ a vs, v = .ref a ∧ SX b K H a vs ∧ Dzs (fun a => ¬ W a) K H vs ds ∧ ∀ H', Ev W H H' → SX b K H' a vs := by
  cases b
  · cases h with
    | tup h1 h2 => exact ⟨_, _, rfl, h1, h2, fun H' ev => ev.tm _ _ _ h1⟩
  · cases h with
    | lst h1 h2 =>
      refine ⟨_, _, rfl, h1.sq, h2, fun H' ev => ?_⟩
      rcases h1 with ⟨nn, h1⟩ | h1
      · exact .inl (h1.imp (ev.keep _ _ nn) fun ⟨o, h⟩ => ⟨o, ev.keep _ _ nn h⟩)
      · exact SqN.sq (N := fun _ => True) (.inr h1)
section
variable {p : Option Addr} {K : PySem.W.Frag} {τ : List Sl} {tas : TA}
theorem Wk.zipG {b1 b2 : Bool} {xs ys : List Dat} (h : A1 p K tas τ [.dat (sqD b1 xs), .dat (sqD b2 ys)]) (hl : ys.length = xs.length) : Wk p K (iZipG b1 b2 K tas) τ (zipD xs ys) := fun W L σ H R r o q => h W L σ H _ r o fun vs H1 ss e e1 o1 rv => by
  subst e
  cases rv with
  | cons a t =>
    cases t with
    | cons b t =>
      cases t
      obtain ⟨a1, x1, rfl, h1, h2, k1⟩ := dz_sx a
      obtain ⟨a2, x2, rfl, h3, h4, k2⟩ := dz_sx b
      refine ⟨a1, a2, rfl, ⟨_, h1⟩, ⟨_, h3⟩, q _ H1 e1 o1 fun W' H' ev n => ?_⟩
      have g1 := k1 H' ev
      have g3 := k2 H' ev
      have g2 := Dzs.old ev n h2
      have g4 := Dzs.old ev n h4
      have ll : (zipD xs ys).length = xs.length := by unfold zipD; rw [List.length_zipWith, hl, Nat.min_self]
      refine ⟨⟨_, g1, by rw [g2.len, ll]; exact Nat.le_refl _, _, g3⟩, fun i d hd => ?_⟩
      obtain ⟨x, y, ex, ey, rfl⟩ := zipD_get hd
      obtain ⟨vx, ux, zx⟩ := g2.get ex
      obtain ⟨vy, uy, zy⟩ := g4.get ey
      refine ⟨⟨_, _, vx, vy, g1, g3, ux, uy⟩, fun z H2 ⟨a, ha, e, q⟩ => ?_⟩
      have := q _ _ _ _ g1 g3 ux uy
      subst this e
      have s := Same.new ha (.tup [vx, vy])
      have e : Ev (fun _ => False) H' (upd H' a (.tup [vx, vy])) := Ev.of s
      exact ⟨s, .tup (SqT.of upd_same) (.cons (zx.ev e fun _ _ h => h) (.cons (zy.ev e fun _ _ h => h) .nil))⟩
end
end D
end

section
set_option Elab.async false
set_option linter.all false
set_option maxRecDepth 100000
set_option maxHeartbeats 4000000
set_option exponentiation.threshold 200000
namespace D
open PySem L2 K0 Num
open PySem.W (Dat)
end D
end

section
set_option Elab.async false
set_option linter.all false
set_option maxRecDepth 100000
set_option maxHeartbeats 4000000
set_option exponentiation.threshold 200000
namespace D
open PySem L2 K0 Num
open PySem.W (Dat)
section
variable {a b c d x y z : Rat}
end
section
variable {t k l P Q R x y z : Rat}
end
end D
namespace D
open PySem L2 K0 Num
open PySem.W (Dat)
end D
end

section
set_option Elab.async false
set_option linter.all false
set_option maxRecDepth 100000
set_option maxHeartbeats 4000000
set_option exponentiation.threshold 200000
namespace D
open PySem L2 K0 Num
open PySem.W (Dat)
section
variable {t a b c d x y z v w cc : Rat}
end
end D
namespace D
open PySem L2 K0 Num
open PySem.W (Dat)
end D
end

section
set_option Elab.async false
set_option linter.all false
set_option maxRecDepth 100000
set_option maxHeartbeats 4000000
set_option exponentiation.threshold 200000
namespace D
open PySem L2 K0 Num
open PySem.W (Dat)
section
variable {p : Option Addr} {K : PySem.W.Frag} {W : Addr → Prop} {H H0 : Hp} {τ : List Sl} {tas : TA} {te : TE} {E' : XK}
theorem Gd.four {τ' : List Sl} {i1 i2 i3 i4 : Nat} {d1 d2 d3 d4 : Dat} (e : (((τ.set i1 (.dat d1)).set i2 (.dat d2)).set i3 (.dat d3)).set i4 (.dat d4) = τ' := by rfl) : Gd p K (gTup K 4 (gCons (gName i1) (gCons (gName i2) (gCons (gName i3) (gCons (gName i4) gNil))))) (.tuple [d1, d2, d3, d4]) τ τ' := fun W L σ H v Q r zz q => by
  cases zz with
  | tup h1 h2 =>
    cases h2 with
    | cons z1 t =>
      cases t with
      | cons z2 t =>
        cases t with
        | cons z3 t =>
          cases t with
          | cons z4 t =>
            cases t
            obtain ⟨L1, l1, r1⟩ := r.set (s := .dat d1) (.inr (.inl ⟨d1, rfl, z1⟩)) i1
            obtain ⟨L2, l2, r2⟩ := r1.set (s := .dat d2) (.inr (.inl ⟨d2, rfl, z2⟩)) i2
            obtain ⟨L3, l3, r3⟩ := r2.set (s := .dat d3) (.inr (.inl ⟨d3, rfl, z3⟩)) i3
            obtain ⟨L4, l4, r4⟩ := r3.set (s := .dat d4) (.inr (.inl ⟨d4, rfl, z4⟩)) i4
            rw [e] at r4
            exact ⟨_, _, rfl, h1, rfl, _, _, rfl, _, _, rfl, _, _, rfl, _, _, rfl, rfl, q L4 _ (fun a h => l1 a (l2 a (l3 a (l4 a h)))) r4⟩
end
structure Row3 where
  x : Rat
  y : Rat
  z : Rat
noncomputable def Row3.d (r : Row3) : Dat := ptQ r.x r.y r.z
end D
end

section
set_option Elab.async false
set_option linter.all false
set_option maxRecDepth 100000
set_option maxHeartbeats 4000000
set_option exponentiation.threshold 200000
namespace L2
open PySem PySem.Spec PyProof.Rows
section
variable {X : Cx} {a b c e o : Expr} {to te ta tb : TE} {tA : TT} {apos cpos pos : Pos}
end
end L2
namespace D
open PySem L2 K0 Num
open PySem.W (Dat)
section
variable {p : Option Addr} {K : PySem.W.Frag} {W : Addr → Prop} {H H0 : Hp} {τ : List Sl} {tas : TA} {te ta tb : TE} {tt : TT} {E' : XK}
end
end D
namespace D
open PySem L2 K0 Num
open PySem.W (Dat)
end D
namespace D
open PySem L2 K0 Num
open PySem.W (Dat)
section
variable {p : Option Addr} {K : PySem.W.Frag} {W : Addr → Prop} {H H0 : Hp} {L : List Addr} {σ : St} {τ : List Sl} {t : TS} {nx : List Sl → Prop} {rt : Sl → Prop}
theorem Rs.less {a : Addr} (r : Rs p W K H L σ τ) : a ∉ L → Rs p (fun b => W b ∧ b ≠ a) K H L σ τ := by
  induction r with
  | nil => exact fun _ => .nil
  | un _ ih => exact fun h => .un (ih h)
  | dat h _ ih => exact fun n => .dat (h.mono fun _ nb z => nb z.1) (ih n)
  | pu h _ ih => exact fun n => .pu h (ih n)
  | own h1 h2 h3 h4 h5 _ ih => exact fun n => .own ⟨h1, fun z => n (z ▸ List.mem_cons_self)⟩ h2 h3 h4 (h5.mono fun _ nb z => nb z.1) (ih fun z => n (List.mem_cons_of_mem _ z))
theorem Rs.frz (r : Rs p W K H L σ τ) : ∀ {i : Nat} {ds : List Dat}, τ[i]? = some (.own ds) → ∃ (a : Addr) (L' : List Addr), (∀ b, b ∈ L' → b ∈ L) ∧ a ∈ L ∧ W a ∧ p ≠ some a ∧ (∃ vs, H a = some (.lst vs)) ∧ Rs p (fun b => W b ∧ b ≠ a) K H L' σ (τ.set i (.dat (.list ds))) := by
  induction r with
  | nil => exact fun h => by simp at h
  | un r ih =>
    intro i ds h
    cases i with
    | zero => cases h
    | succ i =>
      obtain ⟨a, L', h1, h2, h3, h4, h5, h6⟩ := ih (i := i) h
      exact ⟨a, L', h1, h2, h3, h4, h5, .un h6⟩
  | dat z r ih =>
    intro i ds h
    cases i with
    | zero => cases h
    | succ i =>
      obtain ⟨a, L', h1, h2, h3, h4, h5, h6⟩ := ih (i := i) h
      exact ⟨a, L', h1, h2, h3, h4, h5, .dat (z.mono fun _ nb z => nb z.1) h6⟩
  | pu z r ih =>
    intro i ds h
    cases i with
    | zero => cases h
    | succ i =>
      obtain ⟨a, L', h1, h2, h3, h4, h5, h6⟩ := ih (i := i) h
      exact ⟨a, L', h1, h2, h3, h4, h5, .pu z h6⟩
  | @own L σ τ a vs es h1 h2 h3 h4 h5 r ih =>
    intro i ds h
    cases i with
    | zero =>
      cases h
      exact ⟨a, L, fun b hb => List.mem_cons_of_mem _ hb, List.mem_cons_self, h1, h2, ⟨vs, h4⟩, .dat (.lst (.inl ⟨fun z => z.2 rfl, .inl h4⟩) (h5.mono fun _ nb z => nb z.1)) (r.less h3)⟩
    | succ i =>
      obtain ⟨c, L', g1, g2, g3, g4, g5, g6⟩ := ih (i := i) h
      refine ⟨c, a :: L', fun b hb => ?_, List.mem_cons_of_mem _ g2, g3, g4, g5, .own ⟨h1, fun z => h3 (z ▸ g2)⟩ h2 (fun z => h3 (g1 _ z)) h4 (h5.mono fun _ nb z => nb z.1) g6⟩
      rcases List.mem_cons.mp hb with rfl | hb
      · exact List.mem_cons_self
      · exact List.mem_cons_of_mem _ (g1 _ hb)
end
end D
end

section
set_option Elab.async false
set_option linter.all false
set_option maxRecDepth 100000
set_option maxHeartbeats 4000000
set_option exponentiation.threshold 200000
namespace D
open PySem L2 K0 Num
open PySem.W (Dat)
end D
namespace L2
open PySem PySem.Spec PyProof.Rows
end L2
namespace D
open PySem L2 K0 Num
end D
end

section
set_option Elab.async false
set_option linter.all false
set_option maxRecDepth 100000
set_option maxHeartbeats 4000000
set_option exponentiation.threshold 200000
namespace HT
open PySem PySem.Spec PyProof.Rows
open MeetsSeq MeetsSeq2 MeetsSeq3
end HT
namespace L2
open PySem PySem.Spec PyProof.Rows
end L2
namespace D
open PySem L2 K0 Num
open PySem.W (Dat)
section
variable {p : Option Addr} {K : PySem.W.Frag} {W : Addr → Prop} {H H0 : Hp} {τ : List Sl} {tas : TA} {te ta tb : TE} {tt : TT} {E' : XK}
end
end D
namespace K0
open PySem L2
end K0
namespace D
open PySem L2 K0 Num
open PySem.W (Dat)
section
variable {p : Option Addr} {K : PySem.W.Frag} {W : Addr → Prop} {H H0 : Hp} {τ : List Sl} {tas : TA} {te ta tb : TE} {tt : TT} {E' : XK}
end
end D
end

section
set_option Elab.async false
set_option linter.all false
set_option maxRecDepth 100000
set_option maxHeartbeats 4000000
set_option exponentiation.threshold 200000
namespace D
open PySem L2 K0 Num
open PySem.W (Dat)
section
variable {p : Option Addr} {K : PySem.W.Frag} {W : Addr → Prop} {L : List Addr} {σ : St} {H H0 H1 H2 : Hp} {τ τ' : List Sl} {ta tb te : TE} {tas : TA} {v : V} {s : Sl} {nx : List Sl → Prop} {rt : Sl → Prop} {t u : TS} {ds : List Dat} {wi : TI}
end
noncomputable def F4 (b : Nat) (f : List Int) : Prop := f.length = 4 ∧ (∃ n ∈ f, n ≠ 0) ∧ Bd (2 ^ b) f
noncomputable def rb (ns ms : List Int) : List Int := fr (sop ns ms * sop ns ms) (nrm ns * nrm ms)
end D
end

section
set_option Elab.async false
set_option linter.all false
set_option maxRecDepth 100000
set_option maxHeartbeats 4000000
set_option exponentiation.threshold 200000
namespace D
open PySem L2 K0 Num
open PySem.W (Dat)
section
variable {p : Option Addr} {K : PySem.W.Frag} {W : Addr → Prop} {L : List Addr} {σ : St} {H H0 H1 H2 : Hp} {τ τ' : List Sl} {ta tb te : TE} {tas : TA} {v : V} {s : Sl} {nx : List Sl → Prop} {rt : Sl → Prop} {t u : TS} {ds : List Dat} {wi : TI} {tt : TT}
end
end D
namespace D
open PySem L2 K0 Num
open PySem.W (Dat)
end D
namespace D
open PySem L2 K0 Num
open PySem.W (Dat)
end D
end

section
set_option Elab.async false
set_option linter.all false
set_option maxRecDepth 100000
set_option maxHeartbeats 4000000
set_option exponentiation.threshold 200000
namespace D
open PySem L2 K0 Num
open PySem.W (Dat)
section
variable {a b c d x y z u v w k : Rat}
end
end D
namespace D
open PySem L2 K0 Num
open PySem.W (Dat)
section
variable {p : Option Addr} {K : PySem.W.Frag} {τ : List Sl}
end
end D
namespace D
open PySem L2 K0 Num
open PySem.W (Dat)
end D
namespace D
open PySem L2 K0 Num
open PySem.W (Dat)
section
variable {p : Option Addr} {K : PySem.W.Frag} {W : Addr → Prop} {H H0 : Hp} {τ : List Sl} {tas : TA} {te ta tb ti : TE} {tt : TT} {E' : XK}
end
end D
namespace D
open PySem L2 K0 Num
open PySem.W (Dat)
end D
end

section
set_option Elab.async false
set_option linter.all false
set_option maxRecDepth 100000
set_option maxHeartbeats 4000000
namespace L2
open PySem PySem.Spec PyProof.Rows
noncomputable def CellsAre (x : Str) (names : List (Str × NameKind)) : Prop := names.filter (fun y => y.2 == .cell) = [(x, .cell)]
theorem cells_no : ∀ (names : List (Str × NameKind)) (n : Nat) (acc : List (Str × Addr)) (h : Heap), names.filter (fun y => y.2 == NameKind.cell) = [] → cellsFrom n names acc = acc ∧ pushCells h names = h
  | [], n, acc, h, _ => ⟨rfl, rfl⟩
  | (y, k) :: r, n, acc, h, e => by
    by_cases hk : (k == NameKind.cell) = true
    · rw [List.filter_cons_of_pos (by simpa using hk)] at e; cases e
    · rw [List.filter_cons_of_neg (by simpa using hk)] at e
      unfold cellsFrom pushCells
      rw [if_neg hk, if_neg hk]
      exact cells_no r n acc h e
theorem cells_one {x : Str} : ∀ (names : List (Str × NameKind)) (n : Nat) (acc : List (Str × Addr)) (h : Heap), CellsAre x names → cellsFrom n names acc = (x, n) :: acc ∧ pushCells h names = h.push { cls := .type "cell", data := .cell none }
  | [], n, acc, h, e => by cases e
  | (y, k) :: r, n, acc, h, e => by
    unfold CellsAre at e
    by_cases hk : (k == NameKind.cell) = true
    · rw [List.filter_cons_of_pos (by simpa using hk)] at e
      injection e with e1 e2
      cases e1
      unfold cellsFrom pushCells
      rw [if_pos hk, if_pos hk]
      exact cells_no r _ _ _ e2
    · rw [List.filter_cons_of_neg (by simpa using hk)] at e
      unfold cellsFrom pushCells
      rw [if_neg hk, if_neg hk]
      exact cells_one r n acc h e
section
variable {M : Model} {A : Around} {E : Value → Shared → Prop} {s : Shared}
theorem wpAny_newEnvK {x : Str} {scope : Scope} {globals : Addr} {cl : List (Str × Addr)} {qual : Str} {around : Env} {builtins : Addr} {Q : Env → Shared → Prop} (hx : CellsAre x scope.names)
    (hQ : Q (newEnv scope s.heap.objs.size globals ((x, s.heap.objs.size + 1) :: cl) qual none .none (some around) builtins) { s with heap := (s.heap.push { cls := .type "dict", data := .dict #[] }).push { cls := .type "cell", data := .cell none } }) :
    wpAny M A (newFunctionEnv scope globals cl [] qual none .none (some around) builtins) Q E s := by
  simp only [newFunctionEnv, Option.isSome_some, if_true]
  refine wpAny_bind (wpAny_alloc ?_)
  refine wpAny_bind (wpAny_layCells _ (fun name kind cells => by cases hkc : kind == NameKind.cell <;> simp [hkc]) _ _ _ _ ?_)
  obtain ⟨e1, e2⟩ := cells_one scope.names ({ s with heap := s.heap.push { cls := .type "dict", data := .dict #[] } } : Shared).heap.objs.size cl (s.heap.push { cls := .type "dict", data := .dict #[] }) hx
  rw [e1, e2]
  rw [show ({ s with heap := s.heap.push { cls := .type "dict", data := .dict #[] } } : Shared).heap.objs.size = s.heap.objs.size + 1 from Heap.size_push ..]
  refine wpAny_bind ?_
  rw [List.forIn_nil]
  exact wpAny_pure (wpAny_pure hQ)
end
noncomputable def cxCompK (X : Cx) (x : Str) (scope : Scope) (C : Addr) (fp : List Addr) (s : Shared) (H : Hp) : Cx :=
  { X with N := maskN [x] X.N, s₀ := s, H₀ := H, env := compEnvC scope ((x, C + 1) :: clOf X.env.cells scope.names []) C X.env, outer := X.stack, stack := X.stack, ex := fp, fn := fun y => y == x, pn := [], xe := fun _ _ => False }
structure CompScopeK (x : Str) (N : List Str) (sc scope : Scope) : Prop where
  nd : (maskN [x] N).Nodup
  kind : scope.kind = .function
  cells : CellsAre x scope.names
  loc : ∀ y ∈ scope.names, y.2 = .local → scope.names.lookup y.1 = some .local
  fr : ∀ y ∈ scope.names, y.2 = .free → scope.names.lookup y.1 = some .free
  up : ∀ y ∈ scope.names, y.2 = .free → sc.names.lookup y.1 = some .cell ∨ sc.names.lookup y.1 = some .free
  ow : scope.names.lookup x = some .cell
  mask : scope.names.lookup (maskS x) = none
  only : ∀ y ∈ scope.names, y.2 = .local → y.1 ∉ N
theorem CompScopeK.one {x : Str} {N : List Str} {sc scope : Scope} (S : CompScopeK x N sc scope) {y : Str} (h : scope.names.lookup y = some .cell) : y = x := by
  have m : (y, NameKind.cell) ∈ scope.names.filter (fun y => y.2 == .cell) := List.mem_filter.mpr ⟨lookup_mem h, rfl⟩
  rw [S.cells] at m
  simp at m
  exact m
section
variable {X : Cx} {x : Str} {scope : Scope} {C : Addr} {fp : List Addr} {s : Shared} {H : Hp}
theorem CompScopeK.cf {env : Env} {N : List Str} {sc : Scope} (S : CompScopeK x N sc scope) {y : Str} (hy : y ≠ x) : ((relabel scope env).names.lookup y = some .cell ∨ (relabel scope env).names.lookup y = some .free) → scope.names.lookup y = some .free := fun h => by
  rcases h with h | h
  · obtain ⟨k', e, q⟩ := relabel_lookup (env := env) h
    rcases q with q | ⟨_, q⟩
    · rw [← q] at e; exact absurd (S.one e) hy
    · rw [e, q]
  · obtain ⟨k', e, q⟩ := relabel_lookup (env := env) h
    rcases q with q | ⟨q, _⟩
    · rw [e, ← q]
    · cases q
theorem clK {c : Addr} {y : Str} (e : ((x, C + 1) :: clOf X.env.cells scope.names []).lookup y = some c) : (y = x ∧ c = C + 1) ∨ (y ≠ x ∧ X.env.cells.lookup y = some c ∧ (y, NameKind.free) ∈ scope.names) := by
  rw [List.lookup_cons] at e
  by_cases h : y = x
  · subst h
    simp at e
    exact .inl ⟨rfl, e.symm⟩
  · have : (y == x) = false := by simpa using h
    rw [this] at e
    rcases clOf_spec _ _ _ _ e with q | q
    · exact .inr ⟨h, q.1, q.2⟩
    · simp at q
theorem cxCompK_ok {pins : List (Addr × Obj)} {σ : St} (S : CompScopeK x X.N X.env.scope scope) (I : Inv X pins σ H s) (hC : s.heap.objs.size ≤ C) (hf : ∀ b ∈ fp, FpOk X pins H b) (ho : ∀ b ∈ fp, ∃ o, s.heap.get? b = some o) : (cxCompK X x scope C fp s H).Ok := by
  have old : ∀ y c, X.env.cells.lookup y = some c → c < s.heap.objs.size := fun y c e => by
    obtain ⟨v, o, g1, g2⟩ := I.cell y c e
    exact Heap.lt_size g1
  refine ⟨I.ok.mod, S.kind, I.ok.glob, I.ok.blt, hC, fun y z c h1 h2 => ?_, fun y hy => ?_, fun y c h1 h2 => ?_, I.ok.hd, I.ok.frames, .inl rfl, fun b hb => ⟨?_, fun y c e => ?_⟩, I.bs, Nat.le_trans I.ok.bsz I.sz, fun b o e hb => ?_, fun b hb z => ?_, I.stack, I.stkFree⟩
  · rcases clK h1 with ⟨rfl, rfl⟩ | ⟨n1, e1, _⟩ <;> rcases clK h2 with ⟨rfl, e⟩ | ⟨n2, e2, _⟩
    · rfl
    · exact absurd (Nat.lt_of_succ_lt (Nat.lt_of_lt_of_le (old _ _ e2) hC)) (Nat.lt_irrefl _)
    · subst e; exact absurd (Nat.lt_of_succ_lt (Nat.lt_of_lt_of_le (old _ _ e1) hC)) (Nat.lt_irrefl _)
    · exact I.ok.inj y z c e1 e2
  · have hy' : ((relabel scope X.env).names.lookup y = some .cell ∨ (relabel scope X.env).names.lookup y = some .free) := hy
    by_cases h : y = x
    · subst h
      exact ⟨C + 1, by show ((y, C + 1) :: _).lookup y = _; rw [List.lookup_cons]; simp⟩
    · have q := S.cf h hy'
      have m := lookup_mem q
      obtain ⟨c, e⟩ := I.ok.has y (by rcases S.up _ m rfl with z | z; exact .inl z; exact .inr z)
      obtain ⟨c', e'⟩ := Option.isSome_iff_exists.mp (clOf_has scope.names [] y c m e)
      refine ⟨c', ?_⟩
      show ((x, C + 1) :: _).lookup y = _
      have hb : (y == x) = false := by simpa using h
      rw [List.lookup_cons, hb]; exact e'
  · have h1' : (y == x) = true := h1
    have h1' : y = x := by simpa using h1'
    subst h1'
    rcases clK h2 with ⟨_, rfl⟩ | ⟨n, _⟩
    · show s.heap.objs.size ≤ C + 1; omega
    · exact absurd rfl n
  · obtain ⟨o, e⟩ := ho b hb
    exact Nat.ne_of_lt (Nat.lt_of_lt_of_le (Heap.lt_size e) hC)
  · rcases clK e with ⟨rfl, rfl⟩ | ⟨n, e1, _⟩
    · obtain ⟨o, e⟩ := ho b hb
      exact Nat.ne_of_gt (Nat.lt_succ_of_lt (Nat.lt_of_lt_of_le (Heap.lt_size e) hC))
    · exact (hf b hb).2.2.2.2.1 y c e1
  · rcases (hf b hb).2.2.2.1 with z | z
    · exact I.ok.noex b o e z
    · exact absurd (Nat.lt_of_lt_of_le (Heap.lt_size e) (Nat.le_trans I.ok.bsz z)) (Nat.lt_irrefl _)
  · have z' : b ∈ frs X.stack := z
    rcases List.mem_cons.mp (I.stkSub b z') with q | q
    · exact (hf b hb).2.1 q
    · exact (hf b hb).2.2.1 q
theorem cxCompK_inv {pins : List (Addr × Obj)} {σ : St} {h' : Heap} {t' : Nat} {m : Str → Option Value} {H' : Hp} (S : CompScopeK x X.N X.env.scope scope) (I : Inv X pins σ H s) (hC : s.heap.objs.size ≤ C) (hf : ∀ b ∈ fp, FpOk X pins H b) (ho : ∀ b ∈ fp, ∃ o, s.heap.get? b = some o)
    (hk : ∀ b o, s.heap.get? b = some o → h'.get? b = some o) (hn : h'.Ns C m) (hU : Un (frs X.stack) fp H H' s.heap h') (hok : HOk X.prog X.w H' h') (hC0 : H' C = none) (hle : ∀ b, b < s.heap.objs.size → H' b = H b) (hc1 : h'.IsCell (C + 1) none) (hC1 : H' (C + 1) = none) :
    Inv (cxCompK X x scope C fp s H) [] ([none] ++ σ) H' { s with heap := h', toks := t' } := by
  refine ⟨cxCompK_ok S I hC hf ho, rfl, I.bare, hU, ⟨m, hn, fun i y v h1 h2 h3 => ?_⟩, fun y c e => ?_, hC0, fun y c e => ?_, fun p hp => ?_, hok, ?_⟩
  · have h1' : (maskN [x] X.N)[i]? = some y := h1
    cases i with
    | zero => cases h2
    | succ i =>
      have h2' : σ[i]? = some (some v) := h2
      have h1'' : (X.N.map fun y => if [x].contains y then maskS y else y)[i]? = some y := h1'
      rw [List.getElem?_map] at h1''
      cases ey : X.N[i]? with
      | none => rw [ey] at h1''; cases h1''
      | some y0 =>
        rw [ey] at h1''
        have ex : (if [x].contains y0 then maskS y0 else y0) = y := by simpa using h1''
        have h3' : (relabel scope X.env).names.lookup y = some .local ∨ (relabel scope X.env).names.lookup y = some .cell ∨ (relabel scope X.env).names.lookup y = some .free := h3
        by_cases hyo : y0 = x
        · subst hyo
          rw [if_pos (by simp)] at ex
          subst ex
          have none := S.mask
          have nx : maskS y0 ≠ y0 := fun e => by rw [e, S.ow] at none; cases none
          rcases h3' with z | z
          · rw [relabel_local z] at none; cases none
          · rw [S.cf nx z] at none; cases none
        · rw [if_neg (by simpa using hyo)] at ex
          subst ex
          rcases h3' with z | z
          · exact absurd (List.mem_of_getElem? ey) (S.only _ (lookup_mem (relabel_local z)) rfl)
          · have q := S.cf hyo z
            have mm := lookup_mem q
            have up := S.up _ mm rfl
            obtain ⟨m0, _, hl⟩ := I.loc
            obtain ⟨u, r, l⟩ := hl _ y0 v ey h2' (.inr up)
            refine ⟨u, r, .inr ⟨z, ?_⟩⟩
            rcases l with ⟨k, _⟩ | ⟨k, c, e, ic⟩
            · have k' : X.env.scope.names.lookup y0 = some .local := k
              rcases up with u1 | u1 <;> (rw [u1] at k'; cases k')
            · obtain ⟨c', e'⟩ := Option.isSome_iff_exists.mp (clOf_has scope.names [] y0 c mm e)
              have hb : (y0 == x) = false := by simpa using hyo
              have e2 : ((x, C + 1) :: clOf X.env.cells scope.names []).lookup y0 = some c' := by rw [List.lookup_cons, hb]; exact e'
              rcases clK (X := X) e2 with ⟨z1, _⟩ | ⟨_, z1, _⟩
              · exact absurd z1 hyo
              · rw [e] at z1; cases z1
                obtain ⟨o, g1, g2⟩ := ic
                exact ⟨c, e2, o, hk _ _ g1, g2⟩
  · rcases clK (X := X) e with ⟨rfl, rfl⟩ | ⟨_, e1, _⟩
    · exact ⟨none, hc1⟩
    · obtain ⟨v, o, g1, g2⟩ := I.cell y c e1
      exact ⟨v, o, hk _ _ g1, g2⟩
  · rcases clK (X := X) e with ⟨rfl, rfl⟩ | ⟨_, e1, _⟩
    · exact hC1
    · obtain ⟨v, o, g1, g2⟩ := I.cell y c e1
      rw [hle c (Heap.lt_size g1)]
      exact I.freeC y c e1
  · exact absurd (show p ∈ ([] : List (Addr × Obj)) from hp) (by simp)
  · show ([none] ++ σ).length = (maskN [x] X.N).length
    unfold maskN
    rw [List.length_append, List.length_append, List.length_map, I.len]; rfl
theorem Inv.behindK {pins : List (Addr × Obj)} {σ σ' : St} {pins' : List (Addr × Obj)} {H' : Hp} {s' : Shared} (I : Inv X pins σ H s) (hf : ∀ b ∈ fp, FpOk X pins H b) (J : Inv (cxCompK X x scope C fp s H) pins' σ' H' s') : Inv X pins σ H' s' := by
  refine I.call' J.os J.base J.hok J.bare fun b hb => ?_
  obtain ⟨h0, h1, h2, h3, h4, h5⟩ := hf b hb
  exact ⟨h3, h1, h4, h5⟩
end
section
variable {X : Cx} {xk : Str} {scope : Scope} {elt tg iter : Expr} {ifs : List Expr} {pos : Pos} {wi : TI} {g : TG} {tt : TT} {te : TE}
theorem comp_blockK {pins : List (Addr × Obj)} {σ : St} {H : Hp} {s : Shared} {it : Addr} {fp : List Addr} {tn : Nat → Heap → Prop} {J : It} {Q : VK} {RR : Value → Addr → Result → Shared → Prop} {E : Value → Shared → Prop}
    (hc : X.calm = true) (S : CompScopeK xk X.N X.env.scope scope)
    (hg : ∀ C fp s H, PG (cxCompK X xk scope C fp s H) tg g) (ht : ∀ C fp s H, PTs (cxCompK X xk scope C fp s H) ifs tt) (he : ∀ C fp s H, PE (cxCompK X xk scope C fp s H) elt te)
    (I : Inv X pins σ H s) (T : Turn X.prog X.w X.K tg J fp it tn) (st : tn 0 s.heap) (hf : ∀ b ∈ fp, FpOk X pins H b)
    (h : CompW 1 J g tt te σ H Q)
    (hRR : ∀ D C s' H' m, Inv X pins σ H' s' → s'.heap.Ns C m → H' C = none → s.heap.objs.size ≤ C → Q (.ref D) H' → RR (.ref D) C (.ok .next) s') :
    wpAny (model X.prog X.w) X.A (newList []) (fun acc s₃ => wpAny (model X.prog X.w) X.A (newFunctionEnv scope X.env.globals (clOf X.env.cells scope.names []) [] X.env.qual none .none (some X.env)) (fun cenv s₄ =>
      codeAny (model X.prog X.w) X.A (.compStart (.ListComp elt [⟨tg, iter, ifs, 0⟩] scope pos) 0 (.ref it) acc { cenv with scope := relabel scope X.env }) (RR acc cenv.locals) s₄) E s₃) E s := by
  refine wpAny_newObj_type (wpAny_newEnvK S.cells ?_)
  dsimp only
  generalize hH2 : s.heap.push { cls := .type "list", dict := none, data := .seq ([] : List Value).toArray } = H2
  have hC : H2.objs.size = s.heap.objs.size + 1 := by rw [← hH2, Heap.size_push]
  have hDC : s.heap.objs.size ≠ H2.objs.size := by rw [hC]; exact Nat.ne_of_lt (Nat.lt_succ_self _)
  have hCle : s.heap.objs.size ≤ H2.objs.size := by rw [hC]; exact Nat.le_succ _
  have hk2 : ∀ b o, H2.get? b = some o → ((H2.push { cls := .type "dict", data := .dict #[] }).push { cls := .type "cell", data := .cell none }).get? b = some o := fun b o e => Heap.get?_push_of_some _ (Heap.get?_push_of_some _ e)
  have hns₁ : ((H2.push { cls := .type "dict", data := .dict #[] }).push { cls := .type "cell", data := .cell none }).Ns H2.objs.size (fun _ => none) := (Heap.Ns.new H2 (.type "dict")).keeps fun b o e => Heap.get?_push_of_some _ e
  have hcl1 : ((H2.push { cls := .type "dict", data := .dict #[] }).push { cls := .type "cell", data := .cell none }).IsCell (H2.objs.size + 1) none := by
    rw [show H2.objs.size + 1 = (H2.push { cls := .type "dict", data := .dict #[] }).objs.size from (Heap.size_push ..).symm]
    exact ⟨_, Heap.get?_push_size _ rfl, rfl⟩
  have old : ∀ b o, s.heap.get? b = some o → ((H2.push { cls := .type "dict", data := .dict #[] }).push { cls := .type "cell", data := .cell none }).get? b = some o := fun b o e => hk2 b o (hH2 ▸ Heap.get?_push_of_some _ e)
  have hacc : ((H2.push { cls := .type "dict", data := .dict #[] }).push { cls := .type "cell", data := .cell none }).get? s.heap.objs.size = some { cls := .type "list", dict := none, data := .seq ([] : List Value).toArray } := hk2 _ _ (hH2 ▸ Heap.get?_push_size _ rfl)
  generalize (H2.push { cls := .type "dict", data := .dict #[] }).push { cls := .type "cell", data := .cell none } = h₁ at *
  have ho : ∀ b ∈ fp, ∃ o, s.heap.get? b = some o := fun b hb => let ⟨o, e, _⟩ := T.obj _ _ st b hb; ⟨o, e⟩
  have fresh : ∀ a, s.heap.objs.size ≤ a → H a = none := fun a ha => I.hok.fresh ha
  generalize hD : s.heap.objs.size = D at *
  generalize hCC : H2.objs.size = C at *
  have I1 : Inv (cxCompK X xk scope C fp s H) [] ([none] ++ σ) (upd H D (.lst [])) { s with heap := h₁, toks := s.toks } := by
    refine cxCompK_inv S I (by rw [hD]; exact hCle) hf ho old hns₁ (Un.laid old (by rw [hD]; exact Nat.le_refl _) (fresh D (Nat.le_refl _))) (I.hok.laid old (by rw [hD]; exact Nat.le_refl _) ?_) ?_ (fun b hb => ?_) hcl1 ?_
    · exact ⟨Nat.zero_le _, [], 0, .nil, hacc⟩
    · rw [upd_ne (Ne.symm hDC)]; exact fresh C hCle
    · rw [hD] at hb; rw [upd_ne (Nat.ne_of_lt hb)]
    · rw [upd_ne (Nat.ne_of_gt (Nat.lt_succ_of_le hCle))]; exact fresh _ (Nat.le_succ_of_le hCle)
  obtain ⟨W, ⟨m0, w0⟩, turn⟩ := h D (fresh D (Nat.le_refl _))
  have fpY : ∀ {H' : Hp}, (∀ b ∈ fp, H' b = none) → ∀ b ∈ fp, FpOk (cxCompK X xk scope C fp s H) [] H' b := fun hn b hb => by
    obtain ⟨q0, q1, q2, q3, q4, q5⟩ := hf b hb
    refine ⟨hn b hb, I1.ok.exf b hb |>.1, I1.ok.exfs b hb, .inl hb, I1.ok.exf b hb |>.2, fun p hp => absurd (show p ∈ ([] : List (Addr × Obj)) from hp) (by simp)⟩
  have loop : codeAny (model X.prog X.w) X.A (.compLoop (.ListComp elt [⟨tg, iter, ifs, 0⟩] scope pos) 0 (.ref it) (.ref D) (compEnvC scope ((xk, C + 1) :: clOf X.env.cells scope.names []) C X.env)) (RR (.ref D) C) { s with heap := h₁, toks := s.toks } := by
    refine compLoop_any (fun n s' => ∃ i σ' H', Inv (cxCompK X xk scope C fp s H) [] σ' H' s' ∧ tn i s'.heap ∧ (∀ b ∈ fp, H' b = none) ∧ W i n σ' H') ?_ m0
      ⟨0, _, _, I1, T.keep _ _ _ st fun b _ o e => old b o e, fun b hb => ?_, w0⟩
    · rintro n s3 ⟨i, σ3, H3, I3, st3, fr3, w3⟩
      rcases turn i n σ3 H3 w3 with ⟨stop, qn⟩ | ⟨go, step⟩
      · refine thn (T.done (cxCompK X xk scope C fp s H) rfl rfl rfl hc i [] s3 σ3 H3 _ I3 (fpY fr3) st3 stop) fun r s4 ⟨hr, I4⟩ => ?_
        subst hr
        obtain ⟨m, hm, _⟩ := I4.loc
        exact hRR D C s4 H3 m (I.behindK hf I4) hm I4.free hCle qn
      · refine thn (T.item (cxCompK X xk scope C fp s H) rfl rfl rfl hc i [] s3 σ3 H3 _ I3 (fpY fr3) st3 go) fun r s4 ⟨u, hr, h4⟩ => ?_
        subst hr
        dsimp only
        refine thn h4 fun _ s5 ⟨x, H5, I5, r5, y5, st5, fr5⟩ => ?_
        have I5' := I5.pinned (fpY fr5) (T.obj _ _ st5)
        refine thn (hg C fp s H _ s5 σ3 H5 x u _ I5' r5 (step x H5 y5)) fun _ s6 ⟨σ6, H6, I6, q6⟩ => ?_
        refine thn (ht C fp s H _ s6 σ6 H6 _ I6 q6) fun b s7 ⟨H7, I7, q7⟩ => ?_
        have again : ∀ {s8 : Shared} {σ7 : St} {H7 : Hp}, Inv (cxCompK X xk scope C fp s H) ([] ++ pinsAt fp s5.heap) σ7 H7 s8 → (∃ m', m' < n ∧ W (i + 1) m' σ7 H7) → ∃ m, m < n ∧ ∃ i σ' H', Inv (cxCompK X xk scope C fp s H) [] σ' H' s8 ∧ tn i s8.heap ∧ (∀ b ∈ fp, H' b = none) ∧ W i m σ' H' := fun {s8 σ7 H7} I7 n7 => by
          obtain ⟨m', hm, w7⟩ := n7
          refine ⟨m', hm, i + 1, σ7, H7, I7.unpinned, T.keep _ _ _ st5 fun b hb o e => (I7.pin (b, o) (List.mem_append_right _ (List.mem_append_right _ (mem_pinsAt hb e)))).1, fun b hb => ?_, w7⟩
          obtain ⟨o, e, d⟩ := T.obj _ _ st5 b hb
          exact (I7.pin (b, o) (List.mem_append_right _ (List.mem_append_right _ (mem_pinsAt hb e)))).2.1
        cases b with
        | false =>
          rw [if_neg (by simp)] at q7
          exact again I7 q7
        | true =>
          rw [if_pos rfl] at q7 ⊢
          refine thn (he C fp s H _ s7 σ6 H7 _ I7 q7) fun u8 s8 ⟨v, H8, I8, r8, xs, hx, hz, q8⟩ => ?_
          refine thn (mt_append (X := cxCompK X xk scope C fp s H) _ s8 σ6 H8 (.ref D) [v] (.ref D) [u8] (fun _ H9 => ∃ m', m' < n ∧ W (i + 1) m' σ6 H9) I8 rfl (.cons r8 .nil) ⟨D, xs, v, rfl, rfl, hx, hz, q8⟩) fun _ s9 ⟨_, H9, I9, _, q9⟩ => ?_
          exact again I9 q9
    · have lt : b < D := by
        obtain ⟨o, e⟩ := ho b hb
        exact hD ▸ Heap.lt_size e
      rw [upd_ne (Nat.ne_of_lt lt)]
      exact (hf b hb).1
  exact codeAny_compStart_list loop (T.self _ 0 _ _ _ (T.keep _ _ _ st fun b _ o e => old b o e) loop)
theorem comp_closK {pins : List (Addr × Obj)} {σ : St} {H : Hp} {s : Shared} (S : CompScopeK xk X.N X.env.scope scope) (I : Inv X pins σ H s) : closureFor scope X.env = pure (clOf X.env.cells scope.names []) :=
  closureFor_eq fun y hy hk => I.ok.has y.1 (by rcases S.up y hy hk with z | z; exact .inl z; exact .inr z)
theorem pe_compK {N0 P0 : List Str} {sc : Scope} (S0 : FnScope N0 P0 sc) (hc : X.calm = true) (S1 : CompScopeK xk N0 sc scope) (hi : PI X tg iter wi)
    (hg : ∀ C fp s H, (maskN [xk] N0).Nodup → PG (cxCompK X xk scope C fp s H) tg g) (ht : ∀ C fp s H, PTs (cxCompK X xk scope C fp s H) ifs tt) (he : ∀ C fp s H, PE (cxCompK X xk scope C fp s H) elt te)
    (hs : ∀ x, foldedSetIterable iter X.env x = pure x := by intro _; rfl) (hN0 : X.N = N0 := by rfl) (hsc : X.env.scope = sc := by rfl) : PE X (.ListComp elt [⟨tg, iter, ifs, 0⟩] scope pos) (tCompB 1 wi g tt te) := by
  intro pins s σ H Q I h
  subst hN0 hsc
  have S := S1
  replace hg := fun C fp s H => hg C fp s H S1.nd
  rw [eval_ListComp]
  refine wpAny_comprehension_free (use := none) rfl hs (comp_closK S I) S.kind S.loc (thn (hi pins s σ H _ I h) fun xv s₁ h₁ => thn h₁ fun itv s₂ h₂ => ?_)
  obtain ⟨it, fp, tn, J, H2, rfl, I2, T, st2, f2, q2⟩ := h₂
  refine comp_blockK (Q := Q) hc S hg ht he I2 T st2 f2 q2 ?_
  intro D C s' H' m I' hm hC hCle q
  refine ⟨m, hm, fun h' hs' => ⟨.ref D, H', ?_, rfl, q⟩⟩
  exact I'.letgo hC I2.sz hCle I2.lt (fun x c e => let ⟨v, z⟩ := I2.cell x c e; z.lt) (fun p hp => Heap.lt_size (I2.pin p hp).1) hs'
end
section
variable {X : Cx} {x : Str} {scope : Scope} {elt tg iter : Expr} {ifs : List Expr} {pos : Pos} {wi : TI} {g : TG} {tt : TT} {te : TE} {e : Expr}
theorem ze_compK {sc : Scope} {N0 P0 : List Str} (S0 : FnScope N0 P0 sc) (hc : X.calm = true) (S1 : CompScopeK x N0 sc scope) (hi : ZI X tg iter wi)
    (hg : ∀ C fp s H, (maskN [x] N0).Nodup → ZG (cxCompK X x scope C fp s H) tg g) (ht : ∀ C fp s H, ZTs (cxCompK X x scope C fp s H) ifs tt) (he : ∀ C fp s H, ZE (cxCompK X x scope C fp s H) elt te)
    (hs : ∀ x, foldedSetIterable iter X.env x = pure x := by intro _; rfl) (hN0 : X.N = N0 := by rfl) (hsc : X.env.scope = sc := by rfl) : ZE X (.ListComp elt [⟨tg, iter, ifs, 0⟩] scope pos) (tCompB 1 wi g tt te) :=
  ⟨pe_compK S0 hc S1 hi.out (fun C fp s H n => (hg C fp s H n).out) (fun C fp s H => (ht C fp s H).out) (fun C fp s H => (he C fp s H).out) hs hN0 hsc⟩
theorem ze_compNK {own2 : List Str} {scope2 sc : Scope} {N P0 : List Str} {C1 : Addr} {fp1 : List Addr} {s1 : Shared} {H1 : Hp} (S0 : FnScope N P0 sc) (hc : X.calm = true) (S1 : CompScope own2 (maskN [x] N) (relS scope sc) scope2) (hi : ZI (cxCompK X x scope C1 fp1 s1 H1) tg iter wi)
    (hg : ∀ C fp s H, (maskN own2 (maskN [x] N)).Nodup → ZG (cxComp (cxCompK X x scope C1 fp1 s1 H1) own2 scope2 C fp s H) tg g) (ht : ∀ C fp s H, ZTs (cxComp (cxCompK X x scope C1 fp1 s1 H1) own2 scope2 C fp s H) ifs tt) (he : ∀ C fp s H, ZE (cxComp (cxCompK X x scope C1 fp1 s1 H1) own2 scope2 C fp s H) elt te)
    (hs : ∀ x', foldedSetIterable iter (cxCompK X x scope C1 fp1 s1 H1).env x' = pure x' := by intro _; rfl) (hN0 : X.N = N := by rfl) (hsc : X.env.scope = sc := by rfl) : ZE (cxCompK X x scope C1 fp1 s1 H1) (.ListComp elt [⟨tg, iter, ifs, 0⟩] scope2 pos) (tCompB own2.length wi g tt te) :=
  ⟨pe_compX (X := cxCompK X x scope C1 fp1 s1 H1) hc S1 hi.out (fun C fp s H n => (hg C fp s H n).out) (fun C fp s H => (ht C fp s H).out) (fun C fp s H => (he C fp s H).out) hs (by show maskN [x] X.N = _; rw [hN0]) (by subst hsc; rfl)⟩
variable {C : Addr} {fp : List Addr} {s : Shared} {H : Hp}
theorem zi_tupK (hl : ZE (cxCompK X x scope C fp s H) e te) : ZI (cxCompK X x scope C fp s H) tg e (iTup X.K te) := zi_tup hl
variable {own2 : List Str} {scope2 : Scope} {C2 : Addr} {fp2 : List Addr} {s2 : Shared} {H2 : Hp}
theorem ix_tupKC : IxR (cxComp (cxCompK X x scope C fp s H) own2 scope2 C2 fp2 s2 H2) (rIxT X.K) := ix_tup
theorem ix_listKC : IxR (cxComp (cxCompK X x scope C fp s H) own2 scope2 C2 fp2 s2 H2) (rIxL X.K) := ix_list
end
end L2
end

section
set_option Elab.async false
set_option linter.all false
set_option maxRecDepth 100000
set_option maxHeartbeats 4000000
set_option exponentiation.threshold 200000
namespace L2
open PySem PySem.Spec PyProof.Rows
section
variable {X : Cx} {a b c e o : Expr} {to te ta tb : TE} {tA : TT} {apos cpos pos : Pos}
end
end L2
namespace D
open PySem L2 K0 Num
open PySem.W (Dat)
section
variable {p : Option Addr} {K : PySem.W.Frag} {W : Addr → Prop} {H H0 : Hp} {τ : List Sl} {tas : TA} {te ta tb ti : TE} {tt : TT} {E' : XK}
end
section
variable {p : Option Addr} {K : PySem.W.Frag} {W : Addr → Prop} {L : List Addr} {σ : St} {H H0 H1 H2 : Hp} {τ τ' : List Sl} {ta tb te : TE} {tas : TA} {v : V} {s : Sl} {nx : List Sl → Prop} {rt : Sl → Prop} {t u : TS} {ds : List Dat} {E' : XK}
variable {P : Program} {w : World} {mg : Str → Option Value} {base : Heap}
end
end D
end

section
set_option Elab.async false
set_option linter.all false
set_option maxRecDepth 100000
set_option maxHeartbeats 4000000
set_option exponentiation.threshold 200000
namespace D
open PySem L2 K0 Num
open PySem.W (Dat)
noncomputable def nd (kind : Int) : Nat := if kind = 0 then 1 else if kind = 4 then 3 else 2
theorem E1.frzI {p : Option Addr} {K : PySem.W.Frag} {τ τ' : List Sl} {te : TE} {i : Nat} {ds : List Dat} {n : Int} (h : τ[i]? = some (.own ds)) (he : E1 p K te τ' (.dat (.int n))) (e : τ.set i (.dat (.list ds)) = τ' := by rfl) : E1 p K te τ (.dat (.int n)) := fun W L σ H Q r o q => by
  subst e
  obtain ⟨a, L', h1, h2, h3, h4, ⟨vs, h5⟩, h6⟩ := r.frz h
  have o1 : Ok p (fun b => W b ∧ b ≠ a) H := ⟨fun q hq => ⟨(o.pu q hq).1, (o.pu q hq).2, fun z => h4 (z ▸ hq)⟩, fun b hb => o.al b hb.1⟩
  refine he _ L' σ H _ h6 o1 fun v H' s e ev o' rv => ?_
  subst e
  cases rv.int_inv
  refine q _ H' _ rfl ev ⟨fun q hq => ⟨(o'.pu q hq).1, (o'.pu q hq).2.1⟩, fun b hb => ?_⟩ (.int _)
  by_cases z : b = a
  · subst z; exact ⟨vs, ev.keep _ _ (fun z => h4 z) h5⟩
  · exact o'.al b ⟨hb, z⟩
theorem T1.andT {p : Option Addr} {K : PySem.W.Frag} {τ : List Sl} {tt tu : TT} {c : Bool} (h : T1 p K tt τ true) (h2 : T1 p K tu τ c) : T1 p K (tAnd tt tu) τ c := T.and h (fun _ => h2) fun z => by cases z
end D
end

section
set_option Elab.async false
set_option linter.all false
set_option maxRecDepth 100000
set_option maxHeartbeats 4000000
set_option exponentiation.threshold 200000
namespace L2
open PySem PySem.Spec PyProof.Rows
section
variable {X : Cx} {e o : Expr} {to te : TE} {apos cpos : Pos}
end
end L2
end

section
set_option Elab.async false
set_option linter.all false
set_option maxRecDepth 100000
set_option maxHeartbeats 4000000
set_option exponentiation.threshold 200000
namespace D
open PySem L2 K0 Num
open PySem.W (Dat)
noncomputable def pw (ns : List Int) : Nat → List Int
  | 0 => ns
  | k + 1 => qm ns (pw ns k)
section
variable {a b c d : Int}
end
noncomputable def tn (ns : List Int) : Nat → List Int
  | 0 => [1, 0, 0, 0]
  | k + 1 => pl (pw ns k)
end D
end

section
set_option Elab.async false
set_option linter.all false
set_option maxRecDepth 100000
set_option maxHeartbeats 4000000
set_option exponentiation.threshold 200000
namespace D
open PySem L2 K0 Num
open PySem.W (Dat)
section
variable {K : PySem.W.Frag} {τ : List Sl} {tas : TA} {tb : TE} {E' : XK}
end
end D
end

section
set_option Elab.async false
set_option linter.all false
set_option maxRecDepth 100000
set_option maxHeartbeats 4000000
set_option exponentiation.threshold 200000
namespace L2
open PySem PySem.Spec PyProof.Rows
section
variable {X : Cx} {b : Expr} {ta tb : TE} {pos ps : Pos} {x : Str}
end
end L2
end

section
set_option Elab.async false
set_option linter.all false
set_option maxRecDepth 100000
set_option maxHeartbeats 4000000
set_option exponentiation.threshold 200000
namespace L2
open PySem PySem.Spec PyProof.Rows
section
variable {X : Cx} {tg l : Expr} {tl : TE}
end
end L2
namespace D
open PySem L2 K0 Num
open PySem.W (Dat)
section
variable {p : Option Addr} {K : PySem.W.Frag} {W : Addr → Prop} {H : Hp} {τ : List Sl} {te ta tb : TE}
end
end D
end

section
set_option Elab.async false
set_option linter.all false
set_option maxRecDepth 100000
set_option maxHeartbeats 4000000
set_option exponentiation.threshold 200000
namespace L2
open PySem PySem.Spec PyProof.Rows
section
variable {X : Cx} {o e : Expr} {to te : TE} {apos cpos : Pos}
end
end L2
namespace D
open PySem L2 K0 Num
open PySem.W (Dat)
section
variable {p : Option Addr} {K : PySem.W.Frag} {τ : List Sl} {te ta tb : TE}
end
end D
end

section
set_option Elab.async false
set_option linter.all false
set_option maxRecDepth 100000
set_option maxHeartbeats 4000000
namespace L2
open PySem PySem.Spec PyProof.Rows
section
variable {prog : Program} {w : World} {A : Around} {E : Value → Shared → Prop} {s : Shared} {b2 : Bool}
noncomputable abbrev zs (h : Heap) (sx : Str) (t : Tok) : Heap := h.push { cls := .type "str_ascii_iterator", data := .fields #[.str sx t, .int 0 0] }
end
section
variable {X : Cx}
end
end L2
end

section
set_option Elab.async false
set_option linter.all false
set_option maxRecDepth 100000
set_option maxHeartbeats 4000000
set_option exponentiation.threshold 200000
namespace L2
open PySem PySem.Spec PyProof.Rows
section
variable {X : Cx} {own : List Str} {scope : Scope} {C : Addr} {fp : List Addr} {s : Shared} {H : Hp}
end
end L2
namespace D
open PySem L2 K0 Num
open PySem.W (Dat)
section
variable {p : Option Addr} {K : PySem.W.Frag} {τ : List Sl} {tas : TA}
end
noncomputable def hg (i j k : Nat) : Str := ⟨#[120 + i, 120 + j, 120 + k]⟩
noncomputable def w1 (i : Nat) : Int := if i = 0 then 1 else 0
noncomputable def w2 (i : Nat) : Int := if i = 1 then 1 else 0
noncomputable def w3 (i : Nat) : Int := if i = 2 then 1 else 0
noncomputable def hu (f g h : List Int) : List Int := pl (qm f (qm g h))
section
variable {f g h : List Int}
end
end D
end

section
set_option Elab.async false
set_option linter.all false
set_option maxRecDepth 100000
set_option maxHeartbeats 4000000
set_option exponentiation.threshold 200000
namespace L2
open PySem PySem.Spec PyProof.Rows
section
variable {X : Cx} {b : Expr} {ta tb : TE} {pos ps : Pos} {x : Str}
end
end L2
namespace D
open PySem L2 K0 Num
open PySem.W (Dat)
section
variable {p : Option Addr} {K : PySem.W.Frag} {τ : List Sl} {ta tb : TE}
end
noncomputable def hd (i j : Nat) : Int := if (i + 1) % 3 = j then 1 else -1
noncomputable def le3 (i j k : Nat) : Int := if i = k then 0 else hd i j
end D
end

section
set_option Elab.async false
set_option linter.all false
set_option maxRecDepth 100000
set_option maxHeartbeats 4000000
set_option exponentiation.threshold 200000
namespace D
open PySem L2 K0 Num
open PySem.W (Dat)
noncomputable def lea (i j k : Nat) (m n : Int) : List Int := ps (m * 1 + n * le3 i j k) (n * 1 - m * le3 i j k)
noncomputable def fstS (p q r s m n : Int) : Int × Int := if p * m + r * n = 0 ∧ q * m + s * n = 0 then (p * m * 0 + q * m * 1, q * m * 0 - p * m * 1) else (p * m + r * n, q * m + s * n)
noncomputable def sby (i j k : Nat) (p q r s m n : Int) : Dat := .tuple [tI (ps (fstS p q r s m n).1 (fstS p q r s m n).2), tI (lea i j k m n), tI (ps (p * m * (fstS p q r s m n).2 + q * m * -(fstS p q r s m n).1) (q * m * (fstS p q r s m n).2 - p * m * -(fstS p q r s m n).1))]
end D
end

section
set_option Elab.async false
set_option linter.all false
set_option maxRecDepth 100000
set_option maxHeartbeats 4000000
namespace L2
open PySem PySem.Spec PyProof.Rows
open PySem.W (KatLex KatGo KatTups KasT kas_sort kas_ask KasFin UpdF kas_asc)
section
variable {prog : Program} {w : World} {A : Around} {E : Value → Shared → Prop} {s : Shared}
end
section
variable {X : Cx}
end
end L2
end

section
set_option Elab.async false
set_option linter.all false
set_option maxRecDepth 100000
set_option maxHeartbeats 4000000
set_option exponentiation.threshold 200000
namespace D
open PySem L2 K0 Num
open PySem.W (Dat)
noncomputable def rowD (x : List (List Int)) : Dat := .tuple (x.map tI)
section
variable {p : Option Addr} {K : PySem.W.Frag} {τ : List Sl} {ta : TE}
end
end D
end

section
set_option Elab.async false
set_option linter.all false
set_option maxRecDepth 100000
set_option maxHeartbeats 4000000
set_option exponentiation.threshold 200000
namespace D
open PySem L2 K0 Num
open PySem.W (Dat)
noncomputable def sbyR (i j k : Nat) (p q r s m n : Int) : List (List Int) := [ps (fstS p q r s m n).1 (fstS p q r s m n).2, lea i j k m n, ps (p * m * (fstS p q r s m n).2 + q * m * -(fstS p q r s m n).1) (q * m * (fstS p q r s m n).2 - p * m * -(fstS p q r s m n).1)]
theorem sby_row {i j k : Nat} {p q r s m n : Int} : sby i j k p q r s m n = rowD (sbyR i j k p q r s m n) := rfl
end D
end

section
set_option Elab.async false
set_option linter.all false
set_option maxRecDepth 100000
set_option maxHeartbeats 4000000
namespace D
open PySem L2 K0 Num
open PySem.W (Dat)
section
variable {i j k : Nat} {p q r s m n : Int}
end
end D
end

section
set_option Elab.async false
set_option linter.all false
set_option maxRecDepth 100000
set_option maxHeartbeats 4000000
namespace D
open PySem L2 K0 Num
open PySem.W (Dat)
end D
end

section
set_option Elab.async false
set_option linter.all false
set_option maxRecDepth 100000
set_option maxHeartbeats 4000000
set_option exponentiation.threshold 200000
namespace L2
open PySem PySem.Spec PyProof.Rows
section
variable {X : Cx} {b : Expr} {tb : TE} {pos pd p1 p2 p3 q1 q2 q3 : Pos} {a1 a2 a3 b1 b2 b3 : Str} {i1 i2 i3 j1 j2 j3 : Nat}
end
end L2
end

section
set_option Elab.async false
set_option linter.all false
set_option maxRecDepth 100000
set_option maxHeartbeats 4000000
set_option exponentiation.threshold 200000
namespace D
open PySem L2 K0 Num
open PySem.W (Dat)
section
variable {p : Option Addr} {K : PySem.W.Frag} {τ : List Sl} {tb : TE}
end
end D
end

section
set_option Elab.async false
set_option linter.all false
set_option maxRecDepth 100000
set_option maxHeartbeats 4000000
set_option exponentiation.threshold 200000
namespace D
open PySem L2 K0 Num
open PySem.W (Dat)
noncomputable def Pu3 (N : Nat) (H : Hp) (q : Addr) : Prop := ∃ x c n : Int, H q = some (.lst [.int x, .int c, .int n]) ∧ 0 ≤ n ∧ n ≤ N
structure P3 (q : Addr) (ip N : Nat) (W : Addr → Prop) (L : List Addr) (σ : St) (H : Hp) : Prop where
  wq : W q
  lq : q ∉ L
  sq : σ[ip]? = some (some (.ref q))
  pu : Pu3 N H q
section
variable (q : Addr) (ip N M : Nat) (K : PySem.W.Frag)
noncomputable def E2 (te : TE) (τ : List Sl) (C : Sl → Prop) : Prop := ∀ (W : Addr → Prop) (L : List Addr) (σ : St) (H : Hp) (Q : VK), Rs none W K H L σ τ → Ok none W H → P3 q ip N W L σ H → (∀ v H' s, C s → Ev (fun a => a = q) H H' → Ok none W H' → Pu3 M H' q → Rv none W K H H' v s → Q v H') → te σ H Q
noncomputable def A2 (ta : TA) (τ : List Sl) (C : List Sl → Prop) : Prop := ∀ (W : Addr → Prop) (L : List Addr) (σ : St) (H : Hp) (Q : List V → Hp → Prop), Rs none W K H L σ τ → Ok none W H → P3 q ip N W L σ H → (∀ vs H' ss, C ss → Ev (fun a => a = q) H H' → Ok none W H' → Pu3 M H' q → Rvs none W K H H' vs ss → Q vs H') → ta σ H Q
noncomputable def T2 (tt : TT) (τ : List Sl) (C : Bool → Prop) : Prop := ∀ (W : Addr → Prop) (L : List Addr) (σ : St) (H : Hp) (Q : Bool → Hp → Prop), Rs none W K H L σ τ → Ok none W H → P3 q ip N W L σ H → (∀ b H', C b → Ev (fun a => a = q) H H' → Ok none W H' → Pu3 M H' q → Q b H') → tt σ H Q
noncomputable def S2 (ts : TS) (τ : List Sl) (nx : List Sl → Prop) (rt : Sl → Prop) : Prop := ∀ (W : Addr → Prop) (L : List Addr) (σ : St) (H : Hp) (D : Ends), Rs none W K H L σ τ → Ok none W H → P3 q ip N W L σ H →
  (∀ (W' : Addr → Prop) (L' : List Addr) σ' H' τ', nx τ' → Ev W H H' → Ok none W' H' → (∀ a, W a → ∃ ys, H' a = some (.lst ys)) → (∀ a, W' a → W a ∨ H a = none) → (∀ a, a ∈ L' → a ∈ L ∨ H a = none) → Rs none W' K H' L' σ' τ' → P3 q ip M W' L' σ' H' → D.nx σ' H') →
  (∀ (W' : Addr → Prop) H' v s, rt s → Ev W H H' → Ok none W' H' → (∀ a, W a → ∃ ys, H' a = some (.lst ys)) → (∀ a, W' a → W a ∨ H a = none) → Rr none W' K L H H' v s → Pu3 M H' q → D.rt v H') → ts D σ H
noncomputable abbrev EI2 (te : TE) (τ : List Sl) (P : Int → Prop) : Prop := E2 q ip N M K te τ (fun s => ∃ i, s = .dat (.int i) ∧ P i)
end
section
variable {q : Addr} {ip N M N1 M1 : Nat} {K : PySem.W.Frag} {W : Addr → Prop} {L : List Addr} {σ : St} {H H0 H1 H2 H' : Hp} {τ τ' : List Sl} {ta tb te : TE} {tas : TA} {v : V} {s : Sl} {nx : List Sl → Prop} {rt : Sl → Prop} {t u : TS} {ds : List Dat} {wi : TI} {tt : TT} {E' : XK}
theorem Pu3.up (h : Pu3 N H q) (l : N ≤ M) : Pu3 M H q := by
  obtain ⟨x, c, n, e, h0, h1⟩ := h
  exact ⟨x, c, n, e, h0, by omega⟩
theorem Pu3.keep (h : Pu3 N H q) (e : Ev (Pp none) H H') : Pu3 N H' q := by
  obtain ⟨x, c, n, e', h⟩ := h
  exact ⟨x, c, n, e.keep _ _ (fun z => by cases z) e', h⟩
theorem Pu3.same (h : Pu3 N H q) (s : Same H H') : Pu3 N H' q := h.keep (Ev.of s)
theorem ev_q (e : Ev (Pp none) H H') : Ev (fun a => a = q) H H' := e.mono fun a z => by cases z
theorem Rs.ev3 (r : Rs none W K H L σ τ) (e : Ev (fun a => a = q) H H') (wq : W q) : q ∉ L → Rs none W K H' L σ τ := by
  have nw : ∀ a, ¬ W a → ¬ a = q := fun a n z => n (z ▸ wq)
  induction r with
  | nil => intro _; exact .nil
  | un _ ih => intro l; exact .un (ih l)
  | dat h _ ih => intro l; exact .dat (h.ev e nw) (ih l)
  | pu h _ ih => cases h
  | own h1 h2 h3 h4 h5 _ ih =>
    intro l
    exact .own h1 h2 h3 (e.keep _ _ (fun z => l (z ▸ List.mem_cons_self)) h4) (h5.ev e nw) (ih fun z => l (List.mem_cons_of_mem _ z))
theorem Ok.ev3 (o : Ok none W H) (e : Ev (fun a => a = q) H H') (pu : Pu3 M H' q) : Ok none W H' := ⟨fun a ha => (by cases ha), fun a ha => by
  by_cases z : a = q
  · subst z; obtain ⟨x, c, n, e, _⟩ := pu; exact ⟨_, e⟩
  · obtain ⟨ys, h⟩ := o.al a ha; exact ⟨ys, e.keep _ _ z h⟩⟩
theorem P3.to (h : P3 q ip N W L σ H) (pu : Pu3 M H' q) : P3 q ip M W L σ H' := ⟨h.wq, h.lq, h.sq, pu⟩
theorem P3.up (h : P3 q ip N W L σ H) (l : N ≤ M) : P3 q ip M W L σ H := h.to (h.pu.up l)
theorem Pu3.nn (h : Pu3 N H q) : H q ≠ none := fun z => by obtain ⟨x, c, n, e, _⟩ := h; rw [z] at e; cases e
noncomputable def nvw : Sl → Bool
  | .vw _ => false
  | _ => true
theorem Rv.ev3 (h : Rv none W K H0 H v s) (hs : nvw s = true) (e : Ev (fun a => a = q) H H1) (wq : W q) (nn : H0 q ≠ none) : Rv none W K H0 H1 v s := by
  have nw : ∀ a, ¬ W a → ¬ a = q := fun a n z => n (z ▸ wq)
  cases s with
  | un => trivial
  | dat d => exact Dz.ev e nw h
  | pu => exact h
  | own ds =>
    obtain ⟨a, vs, rfl, h1, h2, h3⟩ := h
    exact ⟨a, vs, rfl, h1, e.keep _ _ (fun z => nn (z ▸ h1)) h2, h3.ev e nw⟩
  | vw ds => cases hs
theorem none3 (e : Ev (fun a => a = q) H H1) (pu : Pu3 M H1 q) {a : Addr} (h : H1 a = none) : H a = none := by
  cases z : H a with
  | none => rfl
  | some u =>
    by_cases y : a = q
    · subst y; exact absurd h pu.nn
    · rw [e.keep _ _ y z] at h; cases h
theorem Rv.base3 (h : Rv none W K H1 H v s) (e : Ev (fun a => a = q) H0 H1) (pu : Pu3 M H1 q) : Rv none W K H0 H v s := by
  cases s with
  | own ds => obtain ⟨a, vs, rfl, h1, h2⟩ := h; exact ⟨a, vs, rfl, none3 e pu h1, h2⟩
  | _ => exact h
theorem ofq (e : Ev (fun a => a = q) H H1) (wq : W q) : Ev W H H1 := e.mono fun a z => z ▸ wq
theorem E2.of {C : Sl → Prop} (h : E none K te τ C) : E2 q ip N N K te τ C := fun W L σ H Q r o p k => h W L σ H Q r o fun v H' s c e o' rv => k v H' s c (ev_q e) o' (p.pu.keep e) rv
theorem E2.mono {C C' : Sl → Prop} (h : E2 q ip N M K te τ C) (m : ∀ s, C s → C' s) : E2 q ip N M K te τ C' := fun W L σ H Q r o p k => h W L σ H Q r o p fun v H' s c => k v H' s (m s c)
theorem E2.up {C : Sl → Prop} (h : E2 q ip N M K te τ C) (l : M ≤ M1) : E2 q ip N M1 K te τ C := fun W L σ H Q r o p k => h W L σ H Q r o p fun v H' s c e o' pu => k v H' s c e o' (pu.up l)
theorem EI2.of {i : Int} {P : Int → Prop} (h : E1 none K te τ (.dat (.int i))) (hp : P i) : EI2 q ip N N K te τ P := E2.of (E.mono h fun s e => ⟨i, e.symm, hp⟩)
theorem EI2.mono {P P' : Int → Prop} (h : EI2 q ip N M K te τ P) (m : ∀ i, P i → P' i) : EI2 q ip N M K te τ P' := E2.mono h fun s ⟨i, e, hp⟩ => ⟨i, e, m i hp⟩
theorem E2.op2 {r : R2} {A C : Sl → Prop} {B : Sl → Sl → Prop} (ha : E2 q ip N M1 K ta τ A) (hv : ∀ s, A s → nvw s = true) (hb : ∀ s, A s → E2 q ip M1 M K tb τ (B s))
    (hr : ∀ s t, A s → B s t → ∀ (W : Addr → Prop) (H0 H : Hp) (x y : V) (Q : VK), Ok none W H → Rv none W K H0 H x s → Rv none W K H0 H y t → (∀ v u, C u → Rv none W K H0 H v u → Q v H) → r x y H Q) : E2 q ip N M K (tOp r ta tb) τ C :=
  fun W L σ H Q rs o p k => ha W L σ H _ rs o p fun x H1 s cs e1 o1 p1 rv1 => hb s cs W L σ H1 _ (rs.ev3 e1 p.wq p.lq) o1 (p.to p1) fun y H2 t ct e2 o2 p2 rv2 =>
    hr s t cs ct W H H2 x y _ o2 (rv1.ev3 (hv s cs) e2 p.wq p.pu.nn) (rv2.base3 e1 p1) fun v u cu rv3 => k v H2 u cu (e1.trans e2) o2 p2 rv3
theorem EI2.op {g : Int → Int → Int} {P Q : Int → Prop} (ha : EI2 q ip N M1 K ta τ P) (hb : EI2 q ip M1 M K tb τ Q) : EI2 q ip N M K (tOp (rI0 fun i j => .int (g i j)) ta tb) τ (fun k => ∃ i j, P i ∧ Q j ∧ k = g i j) :=
  E2.op2 ha (fun s ⟨i, e, _⟩ => by rw [e]; rfl) (fun _ _ => hb) fun s t ⟨i, e1, h1⟩ ⟨j, e2, h2⟩ W H0 H x y R o r1 r2 k => by
    subst e1 e2
    exact ⟨i, j, r1.int_inv, r2.int_inv, k _ _ ⟨_, rfl, i, j, h1, h2, rfl⟩ (.int _)⟩
theorem EI2.opC {g : Int → Int → Int} {Cn : Int → Int → Prop} {P Q : Int → Prop} (ha : EI2 q ip N M1 K ta τ P) (hb : EI2 q ip M1 M K tb τ Q) (hc : ∀ i j, P i → Q j → Cn i j) : EI2 q ip N M K (tOp (rI Cn fun i j => .int (g i j)) ta tb) τ (fun k => ∃ i j, P i ∧ Q j ∧ k = g i j) :=
  E2.op2 ha (fun s ⟨i, e, _⟩ => by rw [e]; rfl) (fun _ _ => hb) fun s t ⟨i, e1, h1⟩ ⟨j, e2, h2⟩ W H0 H x y R o r1 r2 k => by
    subst e1 e2
    exact ⟨i, j, r1.int_inv, r2.int_inv, hc i j h1 h2, k _ _ ⟨_, rfl, i, j, h1, h2, rfl⟩ (.int _)⟩
theorem EI2.p0 : EI2 q ip N N K (tOp (rIxL K) (tVar ip) (tC (.int 0))) τ (fun _ => True) := fun W L σ H Q r o p k => by
  obtain ⟨x, c, n, e, _⟩ := id p.pu
  exact ⟨_, p.sq, q, _, 0, .int x, rfl, rfl, SqL.of e, rfl, k _ H _ ⟨x, rfl, trivial⟩ Ev.refl o p.pu (.int _)⟩
theorem EI2.p1 : EI2 q ip N N K (tOp (rIxL K) (tVar ip) (tC (.int 1))) τ (fun _ => True) := fun W L σ H Q r o p k => by
  obtain ⟨x, c, n, e, _⟩ := id p.pu
  exact ⟨_, p.sq, q, _, 1, .int c, rfl, rfl, SqL.of e, rfl, k _ H _ ⟨c, rfl, trivial⟩ Ev.refl o p.pu (.int _)⟩
theorem EI2.p2 : EI2 q ip N N K (tOp (rIxL K) (tVar ip) (tC (.int 2))) τ (fun n => 0 ≤ n ∧ n ≤ N) := fun W L σ H Q r o p k => by
  obtain ⟨x, c, n, e, h⟩ := id p.pu
  exact ⟨_, p.sq, q, _, 2, .int n, rfl, rfl, SqL.of e, rfl, k _ H _ ⟨n, rfl, h⟩ Ev.refl o p.pu (.int _)⟩
theorem E2.pick {ms : List Dat} {P : Int → Prop} (hl : E1 none K ta τ (.own ms)) (hd : EI2 q ip N M K tb τ P) (hp : ∀ d, P d → 0 ≤ d ∧ d < (ms.length : Int)) : E2 q ip N M K (tOp (rIxL K) ta tb) τ (fun s => ∃ d, s = .dat d ∧ d ∈ ms) :=
  E2.op2 (E2.of hl) (fun s e => by rw [← e]; rfl) (fun _ _ => hd) fun s t e1 ⟨j, e2, h2⟩ W H0 H x y R o r1 r2 k => by
    subst e1 e2
    obtain ⟨a, vs, rfl, h1, h3, h4⟩ := r1
    cases r2.int_inv
    obtain ⟨j0, j1⟩ := hp j h2
    have hj : j.toNat < ms.length := by omega
    obtain ⟨v, hv, zv⟩ := h4.get (show ms[j.toNat]? = some ms[j.toNat] by simp [hj])
    refine ⟨a, vs, j, v, rfl, rfl, SqL.of h3, ?_, k v _ ⟨_, rfl, List.getElem_mem hj⟩ zv⟩
    unfold atI
    rw [ixN_of j0 (by rw [h4.len]; exact j1)]
    exact hv
theorem EI2.pick {ms : List Int} {P : Int → Prop} (hl : E1 none K ta τ (.own (ms.map .int))) (hd : EI2 q ip N M K tb τ P) (hp : ∀ d, P d → 0 ≤ d ∧ d < (ms.length : Int)) : EI2 q ip N M K (tOp (rIxL K) ta tb) τ (fun m => m ∈ ms) :=
  E2.mono (E2.pick hl hd fun d h => by rw [List.length_map]; exact hp d h) fun s ⟨d, e, h⟩ => by
    obtain ⟨m, hm, rfl⟩ := List.mem_map.mp h
    exact ⟨m, e, hm⟩
theorem A2.of {C : List Sl → Prop} (h : A none K tas τ C) : A2 q ip N N K tas τ C := fun W L σ H Q r o p k => h W L σ H Q r o fun v H' s c e o' rv => k v H' s c (ev_q e) o' (p.pu.keep e) rv
theorem A2.one {C : Sl → Prop} (h : E2 q ip N M K te τ C) : A2 q ip N M K (tCons te tNil) τ (fun ss => ∃ s, ss = [s] ∧ C s) := fun W L σ H Q r o p k => h W L σ H _ r o p fun v H' s c e o' pu rv => k [v] H' [s] ⟨s, rfl, c⟩ e o' pu (.cons rv .nil)
theorem A2.cons {C1 : Sl → Prop} {C2 : Sl → List Sl → Prop} {C : List Sl → Prop} (ha : E2 q ip N M1 K te τ C1) (hv : ∀ s, C1 s → nvw s = true) (hr : ∀ s, C1 s → A2 q ip M1 M K tas τ (C2 s)) (m : ∀ s ss, C1 s → C2 s ss → C (s :: ss)) : A2 q ip N M K (tCons te tas) τ C := fun W L σ H Q rs o p k =>
  ha W L σ H _ rs o p fun x H1 s cs e1 o1 p1 rv1 => hr s cs W L σ H1 _ (rs.ev3 e1 p.wq p.lq) o1 (p.to p1) fun ys H2 ss ct e2 o2 p2 rv2 =>
    k (x :: ys) H2 (s :: ss) (m s ss cs ct) (e1.trans e2) o2 p2 (.cons (rv1.ev3 (hv s cs) e2 p.wq p.pu.nn) (by
      clear k m ct
      induction rv2 with
      | nil => exact .nil
      | cons a _ ih => exact .cons (a.base3 e1 p1) ih))
noncomputable def spD (K : PySem.W.Frag) (c : Nat) (R : List Dat → (Dat → Prop) → Prop) : Sp := fun vs H Q _ => ∃ q us ds C N, vs = V.ref q :: us ∧ Dzs (fun a => a ≠ q) K H us ds ∧ Pu3 N H q ∧ N + c ≤ 2 ^ 60 ∧ R ds C ∧ ∀ v H' d, C d → Ev (fun a => a = q) H H' → Pu3 (N + c) H' q → Dz (fun a => H a = none) K H' v d → Q v H'
theorem E2.call {c : Nat} {R : List Dat → (Dat → Prop) → Prop} {A : List Dat → Prop} {C : Dat → Prop} (ha : A2 q ip N M K tas τ (fun ss => ∃ ds, ss = ds.map .dat ∧ A ds)) (hr : ∀ ds, A ds → ∃ C0, R ds C0 ∧ ∀ d, C0 d → C d) (hm : M + c ≤ 2 ^ 60) : E2 q ip N (M + c) K (tCall (spD K c R) [] E' (tCons (tVar ip) tas)) τ (fun s => ∃ d, s = .dat d ∧ C d) := fun W L σ H Q rs o p k =>
  ⟨_, p.sq, ha W L σ H _ rs o p fun vs H1 ss ⟨ds, es, ad⟩ e1 o1 p1 rv => by
    subst es
    obtain ⟨C0, r0, m0⟩ := hr ds ad
    show spD K c R ((V.ref q :: vs) ++ []) H1 Q E'
    rw [List.append_nil]
    refine ⟨q, vs, ds, C0, M, rfl, rv.dats.mono (fun a n (z : a = q) => n (by rw [z]; exact p.wq)), p1, hm, r0, fun v H' d c ev pu z => ?_⟩
    exact k v H' _ ⟨d, rfl, m0 d c⟩ (e1.trans ev) (o1.ev3 ev pu) pu (z.mono fun a ha => o1.fresh ha)⟩
theorem E2.call1 {c : Nat} {R : List Dat → (Dat → Prop) → Prop} {ds : List Dat} {C : Dat → Prop} (ha : A1 none K tas τ (ds.map .dat)) (hr : R ds C) (hm : N + c ≤ 2 ^ 60) : E2 q ip N (N + c) K (tCall (spD K c R) [] E' (tCons (tVar ip) tas)) τ (fun s => ∃ d, s = .dat d ∧ C d) :=
  E2.call (A := fun x => x = ds) (A2.of (show A none K tas τ _ from fun W L σ H Q r o k => ha W L σ H Q r o fun vs H' ss e => k vs H' ss ⟨ds, e.symm, rfl⟩)) (fun x e => by subst e; exact ⟨C, hr, fun _ h => h⟩) hm
theorem S2.seq {X : List Sl → Prop} (h1 : S2 q ip N M1 K t τ X rt) (h2 : ∀ τ', X τ' → S2 q ip M1 M K u τ' nx rt) (hm : M1 ≤ M := by omega) : S2 q ip N M K (tSeq t u) τ nx rt := fun W L σ H D r o p q1 q2 =>
  h1 W L σ H _ r o p (fun W1 L1 σ1 H1 τ1 m e1 o1 w1 n1 l1 r1 p1 => by
    have hn : ∀ a, H1 a = none → H a = none := fun a ha => e1.none w1 ha
    exact h2 τ1 m W1 L1 σ1 H1 D r1 o1 p1 (fun W2 L2 σ2 H2 τ2 c e2 o2 w2 n2 l2 r2 p2 => q1 W2 L2 σ2 H2 τ2 c (e1.chain e2 n1) o2 (al_chain w1 w2 e2)
        (fun a ha => (n2 a ha).elim (n1 a) fun z => .inr (hn a z)) (fun a ha => (l2 a ha).elim (l1 a) fun z => .inr (hn a z)) r2 p2)
      fun W2 H2 v s c e2 o2 w2 n2 rv p2 => q2 W2 H2 v s c (e1.chain e2 n1) o2 (al_chain w1 w2 e2) (fun a ha => (n2 a ha).elim (n1 a) fun z => .inr (hn a z)) (rv.base hn l1) p2) fun W' H' v s c e o' al n rv pu => q2 W' H' v s c e o' al n rv (pu.up hm)
theorem S2.next (h : nx τ) (hm : N ≤ M := by omega) : S2 q ip N M K tNext τ nx rt := fun W L σ H D r o p q1 q2 => q1 W L σ H τ h Ev.refl o o.al (fun _ h => .inl h) (fun _ h => .inl h) r (p.up hm)
theorem S2.ret {C : Sl → Prop} (h : E2 q ip N M1 K te τ C) (m : ∀ s, C s → rt s) (hm : M1 ≤ M := by omega) : S2 q ip N M K (tRet te) τ nx rt := fun W L σ H D r o p q1 q2 => h W L σ H _ r o p fun v H' s c e o' pu rv => q2 W H' v s (m s c) (ofq e p.wq) o' o'.al (fun _ h => .inl h) rv.rr (pu.up hm)
theorem S2.ret1 (h : E1 none K te τ s) (m : rt s) (hm : N ≤ M := by omega) : S2 q ip N M K (tRet te) τ nx rt := S2.ret (E2.of h) (fun x e => e ▸ m) hm
theorem S2.asg {C : Sl → Prop} {i : Nat} (h : E2 q ip N M1 K te τ C) (hf : ∀ s, C s → flat s = true ∧ s ≠ .pu) (m : ∀ s, C s → nx (τ.set i s)) (hi : i ≠ ip := by decide) (hm : M1 ≤ M := by omega) : S2 q ip N M K (tAsg te (gName i)) τ nx rt := fun W L σ H D r o p q1 q2 => h W L σ H _ r o p fun v H1 s c e o1 pu rv => by
  obtain ⟨z, np⟩ := hf s c
  obtain ⟨L', l, r'⟩ := (r.ev3 e p.wq p.lq).set (v := v) (s := s) (by
    cases s with
    | un => exact .inl rfl
    | dat d => exact .inr (.inl ⟨d, rfl, rv⟩)
    | pu => exact absurd rfl np
    | own ds => cases z
    | vw ds => cases z) i
  exact q1 W L' _ H1 _ (m s c) (ofq e p.wq) o1 o1.al (fun _ h => .inl h) (fun a ha => .inl (l a ha)) r' ⟨p.wq, fun z => p.lq (l _ z), by rw [List.getElem?_set_ne hi]; exact p.sq, pu.up hm⟩
theorem S2.letC {C : Dat → Prop} {i : Nat} (h : E2 q ip N M1 K te τ (fun s => ∃ d, s = .dat d ∧ C d)) (m : ∀ d, C d → S2 q ip M1 M K u (τ.set i (.dat d)) nx rt) (hi : i ≠ ip := by decide) (hm : M1 ≤ M := by omega) : S2 q ip N M K (tSeq (tAsg te (gName i)) u) τ nx rt :=
  S2.seq (M1 := M1) (X := fun τ' => ∃ d, C d ∧ τ' = τ.set i (.dat d)) (S2.asg h (fun s ⟨d, e, _⟩ => by rw [e]; exact ⟨rfl, fun z => by cases z⟩) (fun s ⟨d, e, c⟩ => ⟨d, c, by rw [e]⟩) hi (Nat.le_refl _)) (fun τ' ⟨s, c, e⟩ => e ▸ m s c) hm
theorem S2.letI {P : Int → Prop} {i : Nat} (h : EI2 q ip N M1 K te τ P) (m : ∀ n, P n → S2 q ip M1 M K u (τ.set i (.dat (.int n))) nx rt) (hi : i ≠ ip := by decide) (hm : M1 ≤ M := by omega) : S2 q ip N M K (tSeq (tAsg te (gName i)) u) τ nx rt :=
  S2.letC (C := fun d => ∃ n, d = .int n ∧ P n) (E2.mono h fun s ⟨n, e, hn⟩ => ⟨_, e, n, rfl, hn⟩) (fun d ⟨n, e, hn⟩ => by subst e; exact m n hn) hi hm
theorem S2.let1 {i : Nat} {d : Dat} {τ' : List Sl} (h : E1 none K te τ (.dat d)) (m : S2 q ip N M K u τ' nx rt) (e : τ.set i (.dat d) = τ' := by rfl) (hi : i ≠ ip := by decide) (hm : N ≤ M := by omega) : S2 q ip N M K (tSeq (tAsg te (gName i)) u) τ nx rt :=
  S2.letC (M1 := N) (C := fun x => x = d) (E2.of (E.mono h fun s e => ⟨d, e.symm, rfl⟩)) (fun x y => by subst y; rw [e]; exact m) hi hm
theorem S2.iff2 {tc : TT} {C : Bool → Prop} (h : T2 q ip N M1 K tc τ C) (ht : C true → S2 q ip M1 M K t τ nx rt) (hf : C false → S2 q ip M1 M K u τ nx rt) : S2 q ip N M K (tIfS tc t u) τ nx rt := fun W L σ H D r o p q1 q2 => h W L σ H _ r o p fun b H1 c e o1 pu => by
  have e1 := ofq e p.wq
  have hn : ∀ a, H1 a = none → H a = none := fun a ha => e1.none (fun a h => o1.al a h) ha
  have go : ∀ {t : TS}, S2 q ip M1 M K t τ nx rt → t D σ H1 := fun h => h W L σ H1 D (r.ev3 e p.wq p.lq) o1 (p.to pu) (fun W2 L2 σ2 H2 τ2 c e2 o2 w2 n2 l2 r2 => q1 W2 L2 σ2 H2 τ2 c (e1.trans e2) o2 (al_chain o1.al w2 e2) (fun a ha => (n2 a ha).elim .inl fun z => .inr (hn a z)) (fun a ha => (l2 a ha).elim .inl fun z => .inr (hn a z)) r2)
      fun W2 H2 v s c e2 o2 w2 n2 rv => q2 W2 H2 v s c (e1.trans e2) o2 (al_chain o1.al w2 e2) (fun a ha => (n2 a ha).elim .inl fun z => .inr (hn a z)) (rv.base hn fun _ h => .inl h)
  cases b with
  | true => rw [if_pos rfl]; exact go (ht c)
  | false => rw [if_neg (by decide)]; exact go (hf c)
theorem T2.of {tc : TT} {C : Bool → Prop} (h : T none K tc τ C) : T2 q ip N N K tc τ C := fun W L σ H Q r o p k => h W L σ H Q r o fun b H' c e o' => k b H' c (ev_q e) o' (p.pu.keep e)
theorem S2.iff {tc : TT} {C : Bool → Prop} (h : T none K tc τ C) (ht : C true → S2 q ip N M K t τ nx rt) (hf : C false → S2 q ip N M K u τ nx rt) : S2 q ip N M K (tIfS tc t u) τ nx rt := S2.iff2 (T2.of h) ht hf
theorem S2.ifs2 {tc : TT} {C : Bool → Prop} (h : T2 q ip N N1 K tc τ C) (ht : C true → S2 q ip N1 M1 K t τ (fun τ' => S2 q ip M1 M K u τ' nx rt) rt) (hf : C false → S2 q ip M1 M K u τ nx rt) (h1 : N1 ≤ M1 := by omega) (h2 : M1 ≤ M := by omega) : S2 q ip N M K (tSeq (tIfS tc t tNext) u) τ nx rt :=
  S2.seq (M1 := M1) (X := fun τ' => S2 q ip M1 M K u τ' nx rt) (S2.iff2 h ht fun z => S2.next (hf z) h1) (fun _ h => h) h2
theorem S2.ifs {tc : TT} {C : Bool → Prop} (h : T none K tc τ C) (ht : C true → S2 q ip N M1 K t τ (fun τ' => S2 q ip M1 M K u τ' nx rt) rt) (hf : C false → S2 q ip M1 M K u τ nx rt) (h1 : N ≤ M1 := by omega) (h2 : M1 ≤ M := by omega) : S2 q ip N M K (tSeq (tIfS tc t tNext) u) τ nx rt := S2.ifs2 (T2.of h) ht hf h1 h2
theorem T1.ofB {tc : TT} {b : Bool} (h : T1 none K tc τ b) : T none K tc τ (fun x => x = b) := fun W L σ H Q r o k => h W L σ H Q r o fun x H' e => k x H' e.symm
theorem S2.setP0 {P : Int → Prop} (he : EI2 q ip N M1 K te τ P) (m : nx τ) (hm : M1 ≤ M := by omega) : S2 q ip N M K (tAsg te (gSub (tVar ip) (tC (.int 0)) rSetL)) τ nx rt := fun W L σ H D r o p q1 q2 =>
  he W L σ H _ r o p fun v H1 s ⟨k, e0, _⟩ e1 o1 p1 rv => by
    subst e0
    cases rv.int_inv
    obtain ⟨x, c, n, e, h⟩ := id p1
    have ev : Ev (fun b => b = q) H1 (upd H1 q (.lst [.int k, .int c, .int n])) := ⟨fun b o n h => by rw [upd_ne n]; exact h, Tm.lst e _⟩
    have pu : Pu3 M (upd H1 q (.lst [.int k, .int c, .int n])) q := ⟨k, c, n, upd_same, h.1, by omega⟩
    have o2 := o1.ev3 ev pu
    exact ⟨_, p.sq, q, _, 0, 0, rfl, rfl, e, rfl, q1 W L σ _ τ m (ofq (e1.trans ev) p.wq) o2 o2.al (fun _ h => .inl h) (fun _ h => .inl h) (r.ev3 (e1.trans ev) p.wq p.lq) (p.to pu)⟩
theorem S2.setP2 {P : Int → Prop} (he : EI2 q ip N M1 K te τ P) (hP : ∀ n, P n → 0 ≤ n ∧ n ≤ M) (m : nx τ) : S2 q ip N M K (tAsg te (gSub (tVar ip) (tC (.int 2)) rSetL)) τ nx rt := fun W L σ H D r o p q1 q2 =>
  he W L σ H _ r o p fun v H1 s ⟨k, e0, hk⟩ e1 o1 p1 rv => by
    subst e0
    cases rv.int_inv
    obtain ⟨x, c, n, e, h⟩ := id p1
    have ev : Ev (fun b => b = q) H1 (upd H1 q (.lst [.int x, .int c, .int k])) := ⟨fun b o n h => by rw [upd_ne n]; exact h, Tm.lst e _⟩
    have pu : Pu3 M (upd H1 q (.lst [.int x, .int c, .int k])) q := ⟨x, c, k, upd_same, hP k hk⟩
    have o2 := o1.ev3 ev pu
    exact ⟨_, p.sq, q, _, 2, 2, rfl, rfl, e, rfl, q1 W L σ _ τ m (ofq (e1.trans ev) p.wq) o2 o2.al (fun _ h => .inl h) (fun _ h => .inl h) (r.ev3 (e1.trans ev) p.wq p.lq) (p.to pu)⟩
end
end D
end

section
set_option Elab.async false
set_option linter.all false
set_option maxRecDepth 100000
set_option maxHeartbeats 4000000
set_option exponentiation.threshold 200000
namespace D
open PySem L2 K0 Num
open PySem.W (Dat)
section
variable {p : Option Addr} {q : Addr} {ip N M N1 M1 : Nat} {K : PySem.W.Frag} {W : Addr → Prop} {L : List Addr} {σ : St} {H H0 H1 H2 H' : Hp} {τ τ' : List Sl} {ta tb te : TE} {tas : TA} {v : V} {s : Sl} {nx : List Sl → Prop} {rt : Sl → Prop} {t u : TS} {ds : List Dat} {wi : TI} {tt : TT} {E' : XK}
theorem E1.max2 {a b : Int} (ha : A1 p K tas τ [.dat (.int a), .dat (.int b)]) : E1 p K (tCB (fun xs H Q => ∃ i j, xs = [.int i, .int j] ∧ Q (.int (if j > i then j else i)) H) tas) τ (.dat (.int (if b > a then b else a))) := fun W L σ H Q rs o k => ha W L σ H _ rs o fun vs H1 ss e e1 o1 rv => by
  subst e
  cases rv with
  | cons x r =>
    cases r with
    | cons y r =>
      cases r
      cases x.int_inv
      cases y.int_inv
      exact ⟨a, b, rfl, k _ H1 _ rfl e1 o1 (.int _)⟩
theorem Rs.evX {X : Addr → Prop} (r : Rs none W K H L σ τ) (e : Ev X H H') (nw : ∀ a, ¬ W a → ¬ X a) : (∀ a, a ∈ L → ¬ X a) → Rs none W K H' L σ τ := by
  induction r with
  | nil => intro _; exact .nil
  | un _ ih => intro l; exact .un (ih l)
  | dat h _ ih => intro l; exact .dat (h.ev e nw) (ih l)
  | pu h _ ih => cases h
  | own h1 h2 h3 h4 h5 _ ih =>
    intro l
    exact .own h1 h2 h3 (e.keep _ _ (l _ List.mem_cons_self) h4) (h5.ev e nw) (ih fun a z => l a (List.mem_cons_of_mem _ z))
theorem E2.comp {c : Nat} {Cd : Dat → Prop} (hw : Wk none K wi τ ds) (turn : ∀ (i : Nat) d, ds[i]? = some d → E2 q (ip + 1) (N + i * c) (N + (i + 1) * c) K te (.dat d :: τ) (fun s => ∃ e, s = .dat e ∧ Cd e)) (hz : ds.length ≤ sizeLine) :
    E2 q ip N (N + ds.length * c) K (tCompB 1 wi (gName 0) tAll te) τ (fun s => ∃ es, s = .own es ∧ es.length = ds.length ∧ ∀ e, e ∈ es → Cd e) := fun W L σ H Q r o p k => by
  refine hw W L σ H _ r o fun J H1 e1 o1 jd => ?_
  intro D hD
  have nD := o1.fresh hD
  have r1 := r.ev e1 o.pw
  have p1 : Pu3 N H1 q := p.pu.keep e1
  have qD : q ≠ D := fun z => p1.nn (z ▸ hD)
  have r1' : Rs none (fun b => W b ∨ b = D) K H1 L σ τ := r1.wide (fun _ h => .inl h) fun b hb nb => (hb.resolve_left nb) ▸ hD
  have lD : ∀ a, a ∈ L → ¬ (a = q ∨ a = D) := fun a ha z => z.elim (fun y => p.lq (y ▸ ha)) fun y => by
    obtain ⟨vs, h⟩ := r1.own_in a ha
    rw [y, hD] at h; cases h
  refine ⟨fun i m σ' H' => m = ds.length - i ∧ i ≤ ds.length ∧ (∃ ρ, ρ.length = 1 ∧ σ' = ρ ++ σ) ∧ Ev (fun a => a = q ∨ a = D) H1 H' ∧ Pu3 (N + i * c) H' q ∧ ∃ (vs : List V) (es : List Dat), H' D = some (.lst vs) ∧ Dzs (fun b => ¬ (W b ∨ b = D)) K H' vs es ∧ es.length = i ∧ ∀ e, e ∈ es → Cd e,
    ⟨ds.length, by omega, Nat.zero_le _, ⟨List.replicate 1 none, by simp, rfl⟩, ⟨fun b u nb h => by rw [upd_ne (fun z => nb (.inr z))]; exact h, (Same.new hD _).tm⟩, (p1.same (Same.new hD _)).up (by omega), [], [], upd_same, .nil, rfl, fun e h => by cases h⟩, ?_⟩
  rintro i m σ' H' ⟨rfl, hi, ⟨ρ, lρ, rfl⟩, ev, pu, vs, es, hv, zv, le, hes⟩
  have evW : Ev W H1 H' := ⟨fun b u nb h => ev.keep b u (fun z => z.elim (fun y => nb (y ▸ p.wq)) fun y => by rw [y] at h; rw [hD] at h; cases h) h, ev.tm⟩
  have ok' : Ok none (fun b => W b ∨ b = D) H' := ⟨fun q hq => (by cases hq), fun b hb => by
    by_cases z : b = D
    · subst z; exact ⟨_, hv⟩
    · by_cases y : b = q
      · subst y; obtain ⟨x1, x2, x3, h, _⟩ := pu; exact ⟨_, h⟩
      · obtain ⟨ys, h⟩ := o1.al b (hb.resolve_right z)
        exact ⟨ys, ev.keep _ _ (fun w => w.elim y z) h⟩⟩
  have rs' : Rs none (fun b => W b ∨ b = D) K H' L σ τ := Rs.evX r1' ev (fun a ha (z : a = q ∨ a = D) => ha (z.imp (fun y => by rw [y]; exact p.wq) id)) lD
  obtain ⟨stop, each⟩ := jd (fun b => W b ∨ b = D) H' evW fun a ha => ha.imp id fun z => by rw [z]; exact hD
  have o1f : H D = none := o1.back e1 hD
  by_cases hlt : i < ds.length
  · have hd : ds[i]? = some ds[i] := by simp [hlt]
    obtain ⟨go, yl⟩ := each i _ hd
    refine .inr ⟨go, fun x H2 y => ?_⟩
    obtain ⟨s2, z2⟩ := yl x H2 y
    have ok2 := ok'.same s2
    match ρ, lρ with
    | [o'], _ =>
    dsimp only [gName, List.cons_append, List.nil_append, List.set_cons_zero]
    have rs2 : Rs none (fun b => W b ∨ b = D) K H2 L (some x :: σ) (.dat ds[i] :: τ) := .dat z2 (rs'.ev (Ev.of s2) ok'.pw)
    refine (T1.all (p := none) (K := K) (τ := .dat ds[i] :: τ)) _ L _ H2 _ rs2 ok2 fun b H4 eb e4 o4 => ?_
    subst eb
    rw [if_pos rfl]
    have p4 : Pu3 (N + i * c) H4 q := (pu.same s2).keep e4
    refine turn i _ hd _ L _ H4 _ (rs2.ev e4 ok2.pw) o4 ⟨.inl p.wq, p.lq, p.sq, p4⟩ fun v H5 s cs e5 o5 p5 rv => ?_
    obtain ⟨e, rfl, ce⟩ := cs
    have hv4 : H4 D = some (.lst vs) := e4.keep _ _ (fun z => by cases z) (s2 _ _ hv)
    have hv5 : H5 D = some (.lst vs) := e5.keep _ _ (fun z => qD z.symm) hv4
    have nq : ∀ a, ¬ (W a ∨ a = D) → ¬ a = q := fun a ha z => ha (.inl (z ▸ p.wq))
    have zv5 : Dzs (fun b => ¬ (W b ∨ b = D)) K H5 vs es := ((zv.ev (W := fun _ => False) (Ev.of s2) fun _ _ h => h).ev e4 fun a ha z => by cases z).ev e5 nq
    have ll : vs.length = i := by rw [zv.len, le]
    have evu : Ev (fun b => b = D) H5 (upd H5 D (.lst (vs ++ [v]))) := ⟨fun b o n h => by rw [upd_ne n]; exact h, Tm.lst hv5 _⟩
    have ev4 : Ev (fun a => a = q ∨ a = D) H' H4 := (Ev.of s2).trans (e4.mono fun _ h => by cases h)
    refine ⟨vs, hv5, by omega, ds.length - (i + 1), by omega, rfl, hlt, ⟨[some x], rfl, rfl⟩, (ev.trans (ev4.trans (e5.mono fun _ h => .inl h))).trans (evu.mono fun _ h => .inr h), ?_, vs ++ [v], es ++ [e], upd_same, (zv5.app (.cons rv .nil)).ev evu fun b hb z => hb (.inr z), by rw [List.length_append, le]; rfl, fun f hf => ?_⟩
    · obtain ⟨x1, x2, x3, h, h'⟩ := p5
      exact ⟨x1, x2, x3, by rw [upd_ne qD]; exact h, h'⟩
    · rcases List.mem_append.mp hf with h | h
      · exact hes f h
      · rcases List.mem_singleton.mp h with rfl; exact ce
  · have e : i = ds.length := by omega
    subst e
    have evP : Ev (fun a => a = q) H1 H' := ⟨fun b u nb h => ev.keep b u (fun z => z.elim nb fun y => by rw [y] at h; rw [hD] at h; cases h) h, ev.tm⟩
    exact .inl ⟨stop, k _ H' _ ⟨es, rfl, le, hes⟩ ((ev_q e1).trans evP) (o1.ev3 evP pu) pu ⟨D, vs, rfl, o1f, hv, zv.mono fun a ha z => ha (.inl z)⟩⟩
theorem S2.for {c i : Nat} {tb : TS} (hw : Wk none K wi τ ds) (I : Nat → List Sl → Prop) (h0 : I 0 τ) (turn : ∀ (k : Nat) d τ1, ds[k]? = some d → I k τ1 → S2 q ip (N + k * c) (N + (k + 1) * c) K tb (τ1.set i (.dat d)) (I (k + 1)) rt) (done : ∀ τ1, I ds.length τ1 → nx τ1) (hi : i ≠ ip := by decide) (hm : N + ds.length * c ≤ M := by omega) : S2 q ip N M K (tFor wi (gName i) tb) τ nx rt := fun W L σ H D r o p q1 q2 => by
  refine hw W L σ H _ r o fun J H1 e1 o1 jd => ?_
  have ew := e1.ofP o
  have hn : ∀ a, H1 a = none → H a = none := fun a ha => ew.none o1.al ha
  refine ⟨fun i m σ' H' => m = ds.length - i ∧ i ≤ ds.length ∧ ∃ (W' : Addr → Prop) (L' : List Addr) (τ1 : List Sl), I i τ1 ∧ Ev W H1 H' ∧ Ok none W' H' ∧ (∀ a, W a → ∃ ys, H' a = some (.lst ys)) ∧ (∀ a, W' a → W a ∨ H1 a = none) ∧ (∀ a, a ∈ L' → a ∈ L ∨ H1 a = none) ∧ Rs none W' K H' L' σ' τ1 ∧ P3 q ip (N + i * c) W' L' σ' H',
    ⟨ds.length, by omega, Nat.zero_le _, W, L, τ, h0, Ev.refl, o1, o1.al, fun _ h => .inl h, fun _ h => .inl h, r.ev e1 o.pw, (p.to (p.pu.keep e1)).up (by omega)⟩, ?_⟩
  rintro k m σ' H' ⟨rfl, hk, W', L', τ1, hI, ev, ok, al, nn, ll, rs, p'⟩
  obtain ⟨stop, each⟩ := jd W' H' ev nn
  by_cases hlt : k < ds.length
  · have hd : ds[k]? = some ds[k] := by simp [hlt]
    obtain ⟨go, yl⟩ := each k _ hd
    have hb := turn k _ τ1 hd hI
    have kc : N + (k + 1) * c ≤ M := Nat.le_trans (Nat.add_le_add_left (Nat.mul_le_mul_right c hlt) N) hm
    refine .inr ⟨go, fun σ'' H'' => ds.length - (k + 1) = ds.length - (k + 1) ∧ k + 1 ≤ ds.length ∧ ∃ (W' : Addr → Prop) (L' : List Addr) (τ1 : List Sl), I (k + 1) τ1 ∧ Ev W H1 H'' ∧ Ok none W' H'' ∧ (∀ a, W a → ∃ ys, H'' a = some (.lst ys)) ∧ (∀ a, W' a → W a ∨ H1 a = none) ∧ (∀ a, a ∈ L' → a ∈ L ∨ H1 a = none) ∧ Rs none W' K H'' L' σ'' τ1 ∧ P3 q ip (N + (k + 1) * c) W' L' σ'' H'', fun σ'' H'' h => ⟨_, by omega, h⟩, fun x H2 y => ?_⟩
    obtain ⟨s2, z2⟩ := yl x H2 y
    have e2 : Ev (Pp none) H' H2 := Ev.of s2
    have o2 := ok.same s2
    have ev2 : Ev W H1 H2 := ev.trans (Ev.of s2)
    have al2 : ∀ a, W a → ∃ ys, H2 a = some (.lst ys) := fun a ha => let ⟨ys, h⟩ := al a ha; ⟨ys, s2 _ _ h⟩
    have hn2 : ∀ a, H2 a = none → H1 a = none := fun a ha => ev2.none al2 ha
    obtain ⟨L3, l3, rs3⟩ := (rs.ev e2 ok.pw).set (v := x) (s := .dat ds[k]) (.inr (.inl ⟨_, rfl, z2⟩)) i
    refine hb W' L3 _ H2 _ rs3 o2 ⟨p'.wq, fun z => p'.lq (l3 _ z), by rw [List.getElem?_set_ne hi]; exact p'.sq, p'.pu.same s2⟩ (fun W4 L4 σ4 H4 τ4 c e4 o4 w4 n4 l4 r4 p4 => ?_) (fun W4 H4 v s c e4 o4 w4 n4 rv p4 => ?_)
    · exact ⟨rfl, hlt, W4, L4, τ4, c, ev2.chain e4 nn, o4, al_chain al2 w4 e4, fun a ha => (n4 a ha).elim (nn a) fun z => .inr (hn2 a z), fun a ha => (l4 a ha).elim (fun z => ll a (l3 a z)) fun z => .inr (hn2 a z), r4, p4⟩
    · have nn' : ∀ a, W' a → W a ∨ H a = none := fun a ha => (nn a ha).imp id (hn a)
      refine q2 W4 H4 v s c ((ew.trans ev2).chain e4 nn') o4 (al_chain al2 w4 e4) (fun a ha => (n4 a ha).elim (nn' a) fun z => .inr (hn a (hn2 a z))) (rv.base (fun a z => hn a (hn2 a z)) fun a ha => ?_) (p4.up kc)
      exact (ll a (l3 a ha)).imp id (hn a)
  · have e : k = ds.length := by omega
    subst e
    exact .inl ⟨stop, q1 W' L' σ' H' τ1 (done τ1 hI) (ew.trans ev) ok al (fun a ha => (nn a ha).imp id (hn a)) (fun a ha => (ll a ha).imp id (hn a)) rs (p'.up hm)⟩
variable {P : Program} {w : World} {mg : Str → Option Value} {base : Heap}
theorem okD {x qual : Str} {st : Stmt} {f : Addr} {fd : FuncData} {N ps : List Str} {k c : Nat} {R : List Dat → (Dat → Prop) → Prop} (F : Fun K x qual st f fd) (S0 : FnScope N ps (defScope st)) (len : ∀ ds C, R ds C → ds.length + 1 = ps.length)
    (body : ∀ (cdv : Value) (A : Around) (outer : List Env) (s : Shared) (H : Hp) (E : XK), Room k (A.deeper (PyProof.Rows.envOfC qual (defScope st) s.heap.objs.size f cdv)) →
      ∃ t, ZSs (cxOf CX0 P w K mg base N qual (defScope st) f cdv A outer s H E).nox (defBody st) t ∧ ∀ (q : Addr) (n : Nat) ds C, n + c ≤ 2 ^ 60 → R ds C → S2 q 0 n (n + c) K t (.un :: ds.map .dat ++ List.replicate (N.length - ps.length) .un) (fun _ => False) (fun s => ∃ d, C d ∧ Gives d s)) : FnOk P w K mg base CX0 (k + 1) f fd ps (spD K c R) := by
  refine F.okZ S0 (fun vs H Q E h => ?_) (fun cdv A outer s H vs Q E hr h => ?_)
  · obtain ⟨q, us, ds, C, n, rfl, z, _, _, r, _⟩ := h; rw [List.length_cons, z.len]; exact len ds C r
  · obtain ⟨q0, us, ds, C, n, rfl, z, pu, nc, r, k⟩ := h
    obtain ⟨t, hz, hs⟩ := body cdv A outer s H E hr
    refine ⟨t, hz, ?_⟩
    have l : (V.ref q0 :: us).length = ps.length := by rw [List.length_cons, z.len]; exact len ds C r
    have r0 : Rs none (fun a => a = q0) K H [] (L2.start N (.ref q0 :: us)) (.un :: ds.map .dat ++ List.replicate (N.length - ps.length) .un) := by
      unfold L2.start
      rw [l]
      exact .un (rs_start _ z fun a h => h)
    have o0 : Ok none (fun a => a = q0) H := ⟨fun q h => (by cases h), fun a h => by obtain ⟨x, y, z, e, _⟩ := pu; exact ⟨_, by rw [h]; exact e⟩⟩
    refine hs q0 n ds C nc r (fun a => a = q0) [] _ H _ r0 o0 ⟨rfl, fun h => (by cases h), rfl, pu⟩ (fun W' L' σ' H' τ' e ev o' al n l r' => e.elim) (fun W' H' v s e ev o' al n rv pu' => ?_)
    obtain ⟨d, c, e⟩ := e
    cases s with
    | dat d' =>
      obtain ⟨rfl, nl⟩ := e
      exact k v H' _ c ev pu' (Dz.free rv nl)
    | own es =>
      obtain ⟨rfl, nl⟩ := e
      obtain ⟨a, vs, rfl, h1, h2, h3⟩ := rv
      exact k _ H' _ c ev pu' (.lst (.inl ⟨h1.resolve_left (fun z => by cases z), .inl h2⟩) (h3.free nl))
    | un => cases e
    | pu => cases e
    | vw ds => cases e
noncomputable def spN (K : PySem.W.Frag) (R : List Dat → List Dat → Prop) : Sp := fun vs H Q _ => ∃ ds es, Dzs (fun _ => True) K H vs ds ∧ R ds es ∧ ∀ a H' ws, Same H H' → H a = none → H' a = some (.lst ws) → Dzs (fun _ => True) K H' ws es → Q (.ref a) H'
theorem okN {x qual : Str} {st : Stmt} {f : Addr} {fd : FuncData} {N ps : List Str} {k : Nat} {R : List Dat → List Dat → Prop} (F : Fun K x qual st f fd) (S0 : FnScope N ps (defScope st)) (len : ∀ ds d, R ds d → ds.length = ps.length)
    (body : ∀ (cdv : Value) (A : Around) (outer : List Env) (s : Shared) (H : Hp) (E : XK), Room k (A.deeper (PyProof.Rows.envOfC qual (defScope st) s.heap.objs.size f cdv)) →
      ∃ t, ZSs (cxOf CX0 P w K mg base N qual (defScope st) f cdv A outer s H E).nox (defBody st) t ∧ ∀ ds es, R ds es → S none K t (ds.map .dat ++ List.replicate (N.length - ps.length) .un) (fun _ => False) (fun s => s = .own es)) : FnOk P w K mg base CX0 (k + 1) f fd ps (spN K R) := by
  refine F.okZ S0 (fun vs H Q E h => ?_) (fun cdv A outer s H vs Q E hr h => ?_)
  · obtain ⟨ds, d, z, r, _⟩ := h; rw [z.len]; exact len ds d r
  · obtain ⟨ds, es, z, r, q⟩ := h
    obtain ⟨t, hz, hs⟩ := body cdv A outer s H E hr
    refine ⟨t, hz, ?_⟩
    have l : vs.length = ps.length := by rw [z.len]; exact len ds es r
    have r0 : Rs none (fun _ => False) K H [] (L2.start N vs) (ds.map .dat ++ List.replicate (N.length - ps.length) .un) := by
      unfold L2.start
      rw [l]
      exact rs_start _ z fun a _ h => h
    have same : ∀ {H' : Hp}, Ev (fun _ => False) H H' → Same H H' := fun e b o h => e.keep b o (fun z => z) h
    refine hs ds es r (fun _ => False) [] _ H _ r0 ⟨fun q h => (by cases h), fun a h => False.elim h⟩ (fun W' L' σ' H' τ' e ev o' al n l r' => e.elim) (fun W' H' v s e ev o' al n rv => ?_)
    subst e
    obtain ⟨a, vs, rfl, h1, h2, h3⟩ := rv
    exact q a H' vs (same ev) (h1.resolve_left (fun z => by cases z)) h2 (h3.mono fun _ _ => trivial)
end
end D
end

section
set_option Elab.async false
set_option linter.all false
set_option maxRecDepth 100000
set_option maxHeartbeats 4000000
set_option exponentiation.threshold 200000
namespace D
open PySem L2 K0 Num
open PySem.W (Dat)
section
variable {p : Option Addr} {q : Addr} {ip N M N1 M1 : Nat} {K : PySem.W.Frag} {τ : List Sl} {ta tb te : TE} {tas : TA} {E' : XK} {tt : TT}
theorem E2.tupC {C : List Dat → Prop} (h : E2 q ip N M K te τ (fun s => ∃ es, s = .own es ∧ C es)) : E2 q ip N M K (tCB (fun xs H Q => ∃ p ys, xs = [.ref p] ∧ ((SqL K H p ys ∧ ∀ l, H l = none → Q (.ref l) (upd H l (.tup ys))) ∨ (SqT K H p ys ∧ Q (.ref p) H))) (tCons te tNil)) τ (fun s => ∃ d, s = .dat d ∧ ∃ es, d = .tuple es ∧ C es) := fun W L σ H Q rs o pq k =>
  h W L σ H _ rs o pq fun v H1 s ⟨es, e, c⟩ e1 o1 p1 rv => by
    subst e
    obtain ⟨a, vs, rfl, h0, h1, h2⟩ := rv
    refine ⟨a, _, rfl, .inl ⟨SqL.of h1, fun r hr => ?_⟩⟩
    have s := Same.new hr (.tup vs)
    exact k _ _ _ ⟨_, rfl, es, rfl, c⟩ (e1.trans (Ev.of s)) (o1.same s) (p1.same s) (.tup (SqT.of upd_same) (h2.ev (W := fun _ => False) (Ev.of s) fun _ _ h => h))
theorem T2.cmp {g : Int → Int → Bool} {P Q : Int → Prop} (ha : EI2 q ip N M1 K ta τ P) (hb : EI2 q ip M1 M K tb τ Q) : T2 q ip N M K (tTest (tOp (rI0 fun i j => .bl (g i j)) ta tb)) τ (fun b => ∃ i j, P i ∧ Q j ∧ b = g i j) := fun W L σ H R rs o pq k =>
  ha W L σ H _ rs o pq fun x H1 s ⟨i, e, hi⟩ e1 o1 p1 rv => hb W L σ H1 _ (rs.ev3 e1 pq.wq pq.lq) o1 (pq.to p1) fun y H2 t ⟨j, e', hj⟩ e2 o2 p2 rv2 => by
    subst e e'
    cases rv.int_inv
    cases rv2.int_inv
    exact ⟨i, j, rfl, rfl, _, rfl, k _ H2 ⟨i, j, hi, hj, rfl⟩ (e1.trans e2) o2 p2⟩
theorem E1.b2i {b : Bool} (h : A1 p K tas τ [.dat (.bool b)]) : E1 p K (tCB (fun xs H Q => (∃ i, xs = [.int i] ∧ Q (.int i) H) ∨ ∃ k, xs = [.bl k] ∧ Q (.int (if k then 1 else 0)) H) tas) τ (.dat (.int (if b then 1 else 0))) := fun W L σ H Q rs o q => h W L σ H _ rs o fun vs H1 ss e e1 o1 rv => by
  subst e
  cases rv with
  | cons a t =>
    cases t
    cases a.bl_inv
    exact .inr ⟨b, rfl, q _ H1 _ rfl e1 o1 (.int _)⟩
theorem E2.callP {R : List Dat → Dat → Prop} {A : List Dat → Prop} {C : Dat → Prop} (ha : A2 q ip N M K tas τ (fun ss => ∃ ds, ss = ds.map .dat ∧ A ds)) (hr : ∀ ds, A ds → ∃ d, R ds d ∧ C d) : E2 q ip N M K (tCall (spP K R) [] E' tas) τ (fun s => ∃ d, s = .dat d ∧ C d) := fun W L σ H Q rs o p k =>
  ha W L σ H _ rs o p fun vs H1 ss ⟨ds, es, ad⟩ e1 o1 p1 rv => by
    subst es
    obtain ⟨d, r0, cd⟩ := hr ds ad
    show spP K R (vs ++ []) H1 Q E'
    rw [List.append_nil]
    exact ⟨ds, d, rv.dats.mono fun _ _ => trivial, r0, fun v H' s z => k v H' _ ⟨d, rfl, cd⟩ (e1.trans (Ev.of s)) (o1.same s) (p1.same s) (z.mono fun a ha => o1.fresh ha)⟩
theorem A2.ints2 {P Q : Int → Prop} (ha : EI2 q ip N M1 K ta τ P) (hb : EI2 q ip M1 M K tb τ Q) : A2 q ip N M K (tCons ta (tCons tb tNil)) τ (fun ss => ∃ ds, ss = ds.map .dat ∧ ∃ i j, ds = [.int i, .int j] ∧ P i ∧ Q j) :=
  A2.cons ha (fun s ⟨i, e, _⟩ => by rw [e]; rfl) (fun _ _ => A2.one hb) fun s ss ⟨i, e, hi⟩ ⟨t, et, j, ej, hj⟩ => ⟨[.int i, .int j], by rw [e, et, ej]; rfl, i, j, rfl, hi, hj⟩
theorem A2.int1 {P : Int → Prop} (ha : EI2 q ip N M K ta τ P) : A2 q ip N M K (tCons ta tNil) τ (fun ss => ∃ ds, ss = ds.map .dat ∧ ∃ i, ds = [.int i] ∧ P i) := fun W L σ H Q r o p k => A2.one ha W L σ H Q r o p fun vs H' ss ⟨t, et, j, ej, hj⟩ => k vs H' ss ⟨[.int j], by rw [et, ej]; rfl, j, rfl, hj⟩
theorem EI2.lit {i : Int} : EI2 q ip N N K (tC (.int i)) τ (fun j => j = i) := EI2.of E1.int rfl
end
noncomputable def cellAt (sc : List Int) (k : Int) : Int := sc.getD k.toNat 0
noncomputable def RAt3 : List Dat → Dat → Prop := fun ds d => ∃ (sc : List Int) (k : Int), ds = [.list (sc.map .int), .int k] ∧ 0 ≤ k ∧ d = .int (cellAt sc k)
noncomputable def mx3 (c k : Int) : Int := ((c * 1103515245 + 7919 * k * k + k) % 2147483647 * ((c * 1103515245 + 7919 * k * k + k) % 2147483647) % 2147483629) * 69621 % 2147483587
noncomputable def RMix3 : List Dat → Dat → Prop := fun ds d => ∃ c k : Int, ds = [.int c, .int k] ∧ 0 ≤ k ∧ k ≤ 2 ^ 61 ∧ d = .int (mx3 c k)
noncomputable def RPur3 : List Dat → List Dat → Prop := fun ds es => ∃ (sc : List Int) (k : Int), ds = [.list (sc.map .int), .int k] ∧ 0 ≤ k ∧ k < 64 ∧ es = [.int (if 0 > cellAt sc k - 10 ^ 18 then 0 else cellAt sc k - 10 ^ 18), .int (cellAt sc k), .int (1000 * k)]
noncomputable def RDraw3 : List Dat → (Dat → Prop) → Prop := fun ds C => ∃ m : Int, ds = [.int m] ∧ 0 < m ∧ m < 2 ^ 200 ∧ C = fun d => ∃ i : Int, d = .int i ∧ 0 ≤ i ∧ i < m
noncomputable def RSm3 : List Dat → (Dat → Prop) → Prop := fun ds C => ∃ m : Int, ds = [.int m] ∧ 0 < m ∧ m < 2 ^ 190 ∧ C = fun d => ∃ i : Int, d = .int i ∧ -m ≤ i ∧ i ≤ m
noncomputable def RFour3 : List Dat → (Dat → Prop) → Prop := fun ds C => ∃ m : Int, ds = [.int m] ∧ 0 < m ∧ m < 2 ^ 190 ∧ C = fun d => ∃ w x y z : Int, d = tI [w, x, y, z] ∧ (∃ n ∈ [w, x, y, z], n ≠ 0) ∧ Bd m.toNat [w, x, y, z]
theorem E2.drawn {q : Addr} {ip N : Nat} {K : PySem.W.Frag} {τ : List Sl} {tas : TA} {E' : XK} {m : Int} (ha : A1 none K tas τ [.dat (.int m)]) (h0 : 0 < m) (h1 : m < 2 ^ 200) (hm : N + 4 ≤ 2 ^ 60 := by omega) : EI2 q ip N (N + 4) K (tCall (spD K 4 RDraw3) [] E' (tCons (tVar ip) tas)) τ (fun d => 0 ≤ d ∧ d < m) :=
  E2.mono (E2.call1 (ds := [.int m]) ha ⟨m, rfl, h0, h1, rfl⟩ hm) fun s ⟨d, e, i, ei, h⟩ => ⟨i, by rw [e, ei], h⟩
end D
end

section
set_option Elab.async false
set_option linter.all false
set_option maxRecDepth 100000
set_option maxHeartbeats 4000000
set_option exponentiation.threshold 200000
namespace D
open PySem L2 K0 Num
open PySem.W (Dat)
section
variable {p : Option Addr} {K : PySem.W.Frag} {τ : List Sl} {tas : TA} {nx : List Sl → Prop} {rt : Sl → Prop}
theorem S.par {i j : Nat} {d1 d2 : Dat} {τ' : List Sl} (h : A1 p K tas τ [.dat d1, .dat d2]) (m : nx τ') (e : (τ.set i (.dat d1)).set j (.dat d2) = τ' := by rfl) : S p K (tPar i j tas) τ nx rt := fun W L σ H D r o q1 q2 => h W L σ H _ r o fun vs H1 ss es ev o1 rv => by
  subst es e
  cases rv with
  | cons a t =>
    cases t with
    | cons b t =>
      cases t
      refine ⟨_, _, rfl, ?_⟩
      obtain ⟨L1, l1, r1⟩ := (r.ev ev o.pw).set (s := .dat d1) (.inr (.inl ⟨d1, rfl, a⟩)) i
      obtain ⟨L2, l2, r2⟩ := r1.set (s := .dat d2) (.inr (.inl ⟨d2, rfl, b⟩)) j
      exact q1 W L2 _ H1 _ m (ev.ofP o) o1 o1.al (fun _ h => .inl h) (fun a ha => .inl (l1 a (l2 a ha))) r2
end
noncomputable def RGcd : List Dat → Dat → Prop := fun ds d => ∃ ns : List Int, ds = [tI ns] ∧ d = .int (gcdN ns)
noncomputable def RShr : List Dat → Dat → Prop := fun ds d => ∃ ns : List Int, ds = [tI ns] ∧ ns.length ≤ 4 ∧ (∃ n ∈ ns, n ≠ 0) ∧ Sm ns ∧ d = tI (red ns)
noncomputable def RRows3 : List Dat → Dat → Prop := fun ds d => ∃ a b c e : Int, ds = [tI [a, b, c, e]] ∧ Bd (2 ^ 1000) [a, b, c, e] ∧ d = .list [tI (rw1 a b c e), tI (rw2 a b c e), tI (rw3 a b c e)]
theorem sop33 (a b c x y z : Int) : sop [a, b, c] [x, y, z] = a * x + b * y + c * z := by simp [sop]; omega
theorem bt_rows {m : Nat} {a b c e : Int} (h : Bd (2 ^ m) [a, b, c, e]) : Bd (2 ^ (2 * m + 3)) (rw1 a b c e) ∧ Bd (2 ^ (2 * m + 3)) (rw2 a b c e) ∧ Bd (2 ^ (2 * m + 3)) (rw3 a b c e) := rows_btG h
end D
end

section
set_option Elab.async false
set_option linter.all false
set_option maxRecDepth 100000
set_option maxHeartbeats 4000000
set_option exponentiation.threshold 200000
namespace D
open PySem L2 K0 Num
open PySem.W (Dat)
section
variable {q : Addr} {ip N M M1 : Nat} {K : PySem.W.Frag} {τ : List Sl} {nx : List Sl → Prop} {rt : Sl → Prop} {t u : TS} {tc : TT}
end
end D
end

section
set_option Elab.async false
set_option linter.all false
set_option maxRecDepth 100000
set_option maxHeartbeats 4000000
set_option exponentiation.threshold 200000
namespace D
open PySem L2 K0 Num
open PySem.W (Dat)
section
variable {X : Cx} {own : List Str} {scope : Scope} {C : Addr} {fp : List Addr} {s : Shared} {H : Hp}
theorem call_isiDC {T : String} : CallR (cxComp X own scope C fp s H) (.builtin "isinstance") (fun xs H Q => ∃ x d b, xs = [x, .ty T] ∧ Is X.K H x d ∧ PySem.W.kitOne X.K (.type (tyD d)) (.type T) = some b ∧ Q (.bl b) H) := call_isiD
end
noncomputable def RPl3 : List Dat → Dat → Prop := fun ds d => ∃ ns : List Int, ds = [tI ns] ∧ ns.length ≤ 4 ∧ (∃ n ∈ ns, n ≠ 0) ∧ Sm ns ∧ d = tI (pl ns)
noncomputable def RWholes : List Dat → Dat → Prop := fun ds d => ∃ (ns : List Int) (k : Int), ds = [tI ns, .int k] ∧ (ns.length : Int) = k ∧ k ≤ 4 ∧ d = .bool true
theorem nz_red {ns : List Int} (h : ∃ n ∈ ns, n ≠ 0) : ∃ n ∈ red ns, n ≠ 0 := by
  obtain ⟨n, hn, n0⟩ := h
  have e := red_mul ns
  rw [← e] at hn
  obtain ⟨m, hm, rfl⟩ := List.mem_map.mp hn
  exact ⟨m, hm, fun z => n0 (by rw [z, Int.mul_zero])⟩
theorem fst0_at : ∀ {rs : List Int} {i : Nat} {n : Int}, (∀ k ∈ rs.take i, k = 0) → rs[i]? = some n → n ≠ 0 → fst0 rs = n
  | [], i, n, _, h, _ => by simp at h
  | x :: r, 0, n, _, h, n0 => by
    simp at h; subst h
    rw [fst0, if_neg n0]
  | x :: r, i + 1, n, hz, h, n0 => by
    have hx : x = 0 := hz x (by simp)
    rw [fst0, if_pos hx]
    exact fst0_at (i := i) (fun k hk => hz k (by rw [List.take_succ_cons]; exact List.mem_cons_of_mem _ hk)) (by simpa using h) n0
end D
end

section
set_option Elab.async false
set_option linter.all false
set_option maxRecDepth 100000
set_option maxHeartbeats 4000000
set_option exponentiation.threshold 200000
namespace L2
open PySem PySem.Spec PyProof.Rows
noncomputable def TupT (K : PySem.W.Frag) (d : Addr) (ks : List Int) : Prop := ∃ o its n, K.lookup d = some o ∧ o.cls = .type "tuple" ∧ o.data = .seq its n ∧ its.size ≤ sizeLine ∧ Vals (ks.map V.int) its.toList
end L2
namespace D
open PySem L2 K0 Num
open PySem.W (Dat)
section
variable {p : Option Addr} {q : Addr} {ip N M N1 M1 : Nat} {K : PySem.W.Frag} {W : Addr → Prop} {L : List Addr} {σ : St} {H H0 H1 H2 H' : Hp} {τ τ' : List Sl} {ta tb te : TE} {tas : TA} {v : V} {s : Sl} {nx : List Sl → Prop} {rt : Sl → Prop} {t u : TS} {ds : List Dat} {wi : TI} {tt : TT} {E' : XK}
noncomputable def W2 (q : Addr) (ip N M : Nat) (K : PySem.W.Frag) (wi : TI) (τ : List Sl) (P : List Dat → Prop) : Prop := ∀ (W : Addr → Prop) (L : List Addr) (σ : St) (H : Hp) (R : It → Hp → Prop), Rs none W K H L σ τ → Ok none W H → P3 q ip N W L σ H → (∀ ds J H1, P ds → Ev (fun a => a = q) H H1 → Ok none W H1 → Pu3 M H1 q → Jd W K J H1 ds → R J H1) → wi σ H R
theorem W2.rng {P : Int → Prop} (h : EI2 q ip N M K te τ P) (hP : ∀ j, P j → -(2 ^ 62) ≤ j ∧ j < 2 ^ 62) : W2 q ip N M K (iRng1 (tCons te tNil)) τ (fun ds => ∃ j : Int, P j ∧ ds = rangeD 0 j.toNat) := fun W L σ H R r o p k => h W L σ H _ r o p fun v H1 s ⟨j, es, hj⟩ e1 o1 p1 rv => by
  subst es
  cases rv.int_inv
  obtain ⟨j1, j2⟩ := hP j hj
  exact ⟨j, rfl, j1, j2, k _ _ H1 ⟨j, hj, rfl⟩ e1 o1 p1 jd_rng⟩
theorem for_core {c i : Nat} {tb : TS} {J : It} {D : Ends} (I : Nat → List Sl → Prop) (h0 : I 0 τ) (turn : ∀ (k : Nat) d τ1, ds[k]? = some d → I k τ1 → S2 q ip (N + k * c) (N + (k + 1) * c) K tb (τ1.set i (.dat d)) (I (k + 1)) rt) (done : ∀ τ1, I ds.length τ1 → nx τ1) (hi : i ≠ ip) (hm : N + ds.length * c ≤ M)
    (r1 : Rs none W K H1 L σ τ) (o1 : Ok none W H1) (p : P3 q ip N W L σ H1) (jd : Jd W K J H1 ds)
    (q1 : ∀ (W' : Addr → Prop) (L' : List Addr) σ' H' τ', nx τ' → Ev W H1 H' → Ok none W' H' → (∀ a, W a → ∃ ys, H' a = some (.lst ys)) → (∀ a, W' a → W a ∨ H1 a = none) → (∀ a, a ∈ L' → a ∈ L ∨ H1 a = none) → Rs none W' K H' L' σ' τ' → P3 q ip M W' L' σ' H' → D.nx σ' H')
    (q2 : ∀ (W' : Addr → Prop) H' v s, rt s → Ev W H1 H' → Ok none W' H' → (∀ a, W a → ∃ ys, H' a = some (.lst ys)) → (∀ a, W' a → W a ∨ H1 a = none) → Rr none W' K L H1 H' v s → Pu3 M H' q → D.rt v H') : tFor (fun _ _ R => R J H1) (gName i) tb D σ H1 := by
  refine ⟨fun i m σ' H' => m = ds.length - i ∧ i ≤ ds.length ∧ ∃ (W' : Addr → Prop) (L' : List Addr) (τ1 : List Sl), I i τ1 ∧ Ev W H1 H' ∧ Ok none W' H' ∧ (∀ a, W a → ∃ ys, H' a = some (.lst ys)) ∧ (∀ a, W' a → W a ∨ H1 a = none) ∧ (∀ a, a ∈ L' → a ∈ L ∨ H1 a = none) ∧ Rs none W' K H' L' σ' τ1 ∧ P3 q ip (N + i * c) W' L' σ' H',
    ⟨ds.length, by omega, Nat.zero_le _, W, L, τ, h0, Ev.refl, o1, o1.al, fun _ h => .inl h, fun _ h => .inl h, r1, p.up (by omega)⟩, ?_⟩
  rintro k m σ' H' ⟨rfl, hk, W', L', τ1, hI, ev, ok, al, nn, ll, rs, p'⟩
  obtain ⟨stop, each⟩ := jd W' H' ev nn
  by_cases hlt : k < ds.length
  · have hd : ds[k]? = some ds[k] := by simp [hlt]
    obtain ⟨go, yl⟩ := each k _ hd
    have hb := turn k _ τ1 hd hI
    have kc : N + (k + 1) * c ≤ M := Nat.le_trans (Nat.add_le_add_left (Nat.mul_le_mul_right c hlt) N) hm
    refine .inr ⟨go, fun σ'' H'' => ds.length - (k + 1) = ds.length - (k + 1) ∧ k + 1 ≤ ds.length ∧ ∃ (W' : Addr → Prop) (L' : List Addr) (τ1 : List Sl), I (k + 1) τ1 ∧ Ev W H1 H'' ∧ Ok none W' H'' ∧ (∀ a, W a → ∃ ys, H'' a = some (.lst ys)) ∧ (∀ a, W' a → W a ∨ H1 a = none) ∧ (∀ a, a ∈ L' → a ∈ L ∨ H1 a = none) ∧ Rs none W' K H'' L' σ'' τ1 ∧ P3 q ip (N + (k + 1) * c) W' L' σ'' H'', fun σ'' H'' h => ⟨_, by omega, h⟩, fun x H2 y => ?_⟩
    obtain ⟨s2, z2⟩ := yl x H2 y
    have e2 : Ev (Pp none) H' H2 := Ev.of s2
    have o2 := ok.same s2
    have ev2 : Ev W H1 H2 := ev.trans (Ev.of s2)
    have al2 : ∀ a, W a → ∃ ys, H2 a = some (.lst ys) := fun a ha => let ⟨ys, h⟩ := al a ha; ⟨ys, s2 _ _ h⟩
    have hn2 : ∀ a, H2 a = none → H1 a = none := fun a ha => ev2.none al2 ha
    obtain ⟨L3, l3, rs3⟩ := (rs.ev e2 ok.pw).set (v := x) (s := .dat ds[k]) (.inr (.inl ⟨_, rfl, z2⟩)) i
    refine hb W' L3 _ H2 _ rs3 o2 ⟨p'.wq, fun z => p'.lq (l3 _ z), by rw [List.getElem?_set_ne hi]; exact p'.sq, p'.pu.same s2⟩ (fun W4 L4 σ4 H4 τ4 c e4 o4 w4 n4 l4 r4 p4 => ?_) (fun W4 H4 v s c e4 o4 w4 n4 rv p4 => ?_)
    · exact ⟨rfl, hlt, W4, L4, τ4, c, ev2.chain e4 nn, o4, al_chain al2 w4 e4, fun a ha => (n4 a ha).elim (nn a) fun z => .inr (hn2 a z), fun a ha => (l4 a ha).elim (fun z => ll a (l3 a z)) fun z => .inr (hn2 a z), r4, p4⟩
    · have nn' : ∀ a, W' a → W a ∨ H1 a = none := nn
      refine q2 W4 H4 v s c (ev2.chain e4 nn') o4 (al_chain al2 w4 e4) (fun a ha => (n4 a ha).elim (nn' a) fun z => .inr (hn2 a z)) (rv.base (fun a z => hn2 a z) fun a ha => ?_) (p4.up kc)
      exact ll a (l3 a ha)
  · have e : k = ds.length := by omega
    subst e
    exact .inl ⟨stop, q1 W' L' σ' H' τ1 (done τ1 hI) ev ok al nn ll rs (p'.up hm)⟩
theorem S2.forD {c i B : Nat} {tb : TS} {P : List Dat → Prop} (hw : W2 q ip N M1 K wi τ P) (I : List Dat → Nat → List Sl → Prop) (h0 : ∀ ds, P ds → I ds 0 τ) (turn : ∀ ds, P ds → ∀ (k : Nat) d τ1, ds[k]? = some d → I ds k τ1 → S2 q ip (M1 + k * c) (M1 + (k + 1) * c) K tb (τ1.set i (.dat d)) (I ds (k + 1)) rt) (done : ∀ ds, P ds → ∀ τ1, I ds ds.length τ1 → nx τ1) (hz : ∀ ds, P ds → ds.length ≤ B) (hi : i ≠ ip := by decide) (hm : M1 + B * c ≤ M := by omega) : S2 q ip N M K (tFor wi (gName i) tb) τ nx rt := fun W L σ H D r o p q1 q2 => by
  refine hw W L σ H _ r o p fun ds J H1 hP e1 o1 p1 jd => ?_
  have ew := ofq e1 p.wq
  have hn : ∀ a, H1 a = none → H a = none := fun a ha => ew.none o1.al ha
  exact for_core (I ds) (h0 ds hP) (turn ds hP) (done ds hP) hi (Nat.le_trans (Nat.add_le_add_left (Nat.mul_le_mul_right c (hz ds hP)) M1) hm) (r.ev3 e1 p.wq p.lq) o1 (p.to p1) jd
    (fun W' L' σ' H' τ' c e2 o2 al n l r' p' => q1 W' L' σ' H' τ' c (ew.trans e2) o2 al (fun a ha => (n a ha).imp id (hn a)) (fun a ha => (l a ha).imp id (hn a)) r' p')
    (fun W' H' v s c e2 o2 al n rv pu => q2 W' H' v s c (ew.trans e2) o2 al (fun a ha => (n a ha).imp id (hn a)) (rv.base hn fun _ h => .inl h) pu)
theorem S2.letO {i : Nat} {ds : List Dat} {τ' : List Sl} (h : E1 none K te τ (.own ds)) (nl : noLs ds = true) (m : S2 q ip N M K u τ' nx rt) (e : τ.set i (.own ds) = τ' := by rfl) (hi : i ≠ ip := by decide) (hm : N ≤ M := by omega) : S2 q ip N M K (tSeq (tAsg te (gName i)) u) τ nx rt := by
  refine S2.seq (M1 := N) (X := fun x => x = τ') (fun W L σ H D r o p q1 q2 => ?_) (fun x hx => hx ▸ m) hm
  refine h W L σ H _ r o fun v H1 s es e1 o1 rv => ?_
  subst es
  obtain ⟨a, vs, rfl, h1, h2, h3⟩ := rv
  have nq : q ≠ a := fun z => p.pu.nn (z ▸ h1)
  have wid : ∀ b, (W b ∨ b = a) → ¬ W b → H b = none := fun b hb nb => (hb.resolve_left nb) ▸ h1
  have r1 : Rs none (fun b => W b ∨ b = a) K H1 L σ τ := (r.wide (fun _ h => .inl h) wid).ev e1 fun q hq => by cases hq
  have al : a ∉ L := fun z => by obtain ⟨_, y⟩ := r.own_in a z; rw [h1] at y; cases y
  obtain ⟨L', l, r2⟩ := r1.setO (.inr rfl) (fun z => by cases z) al h2 (h3.free nl) i
  refine q1 _ L' _ H1 _ e (e1.ofP o) ⟨fun q hq => (by cases hq), fun b hb => ?_⟩ o1.al (fun b hb => hb.imp id fun (z : b = a) => by rw [z]; exact h1) (fun b hb => ?_) r2 ⟨.inl p.wq, fun z => ?_, by rw [List.getElem?_set_ne hi]; exact p.sq, p.pu.keep e1⟩
  · rcases hb with hb | rfl
    · exact o1.al b hb
    · exact ⟨_, h2⟩
  · rcases l b hb with rfl | hb
    · exact .inr h1
    · exact .inl hb
  · rcases l q z with y | y
    · exact nq y
    · exact p.lq y
theorem S2.append {i : Nat} {ds : List Dat} {C : Dat → Prop} (h : τ[i]? = some (.own ds)) (he : E2 q ip N M1 K te τ (fun s => ∃ d, s = .dat d ∧ C d)) (hl : ∀ d, C d → noL d = true) (hz : ds.length < sizeLine) (m : ∀ d, C d → nx (τ.set i (.own (ds ++ [d])))) (hm : M1 ≤ M := by omega) : S2 q ip N M K (tDrop (tBM K "list" rAppend (tVar i) (tCons te tNil))) τ nx rt := fun W L σ H D r o p q1 q2 => by
  obtain ⟨a, vs, e, w, n, l, h1, z⟩ := r.get_own h
  refine ⟨_, e, .inl ⟨rfl, _, SqL.of h1⟩, he W L σ H _ r o p fun v H1 s c e1 o1 p1 rv => ?_⟩
  obtain ⟨d, rfl, cd⟩ := c
  have r1 := r.ev3 e1 p.wq p.lq
  obtain ⟨a', vs', e', w', n', l', h1', z'⟩ := r1.get_own h
  rw [e] at e'; cases e'
  have qa : q ≠ a := fun z => p.lq (z ▸ l)
  have ev : Ev (fun b => b = a) H1 (upd H1 a (.lst (vs' ++ [v]))) := ⟨fun b o n h => by rw [upd_ne n]; exact h, Tm.lst h1' _⟩
  have nw : ∀ b, ¬ W b → ¬ b = a := fun b n z => n (z ▸ w)
  have alw : ∀ b, W b → ∃ ys, upd H1 a (.lst (vs' ++ [v])) b = some (.lst ys) := fun b hb => by
    by_cases z : b = a
    · subst z; exact ⟨_, upd_same⟩
    · rw [upd_ne z]; exact o1.al b hb
  refine ⟨a, vs', v, rfl, rfl, h1', by rw [z'.len]; exact hz, ?_⟩
  refine q1 W L σ _ _ (m d cd) ((ofq e1 p.wq).trans (ev.mono fun b hb => hb ▸ w)) ⟨fun q hq => (by cases hq), alw⟩ alw (fun _ h => .inl h) (fun _ h => .inl h) (Rs.chgO w h1' ((z'.app (.cons rv .nil)).ev ev nw) r1 h e) ⟨p.wq, p.lq, p.sq, ?_⟩
  obtain ⟨x1, x2, x3, hx, hy⟩ := p1
  exact ⟨x1, x2, x3, by rw [upd_ne qa]; exact hx, by omega⟩
theorem Rs.slen (r : Rs p W K H L σ τ) : σ.length = τ.length := by
  induction r with
  | nil => rfl
  | un _ ih => rw [List.length_cons, List.length_cons, ih]
  | dat _ _ ih => rw [List.length_cons, List.length_cons, ih]
  | pu _ _ ih => rw [List.length_cons, List.length_cons, ih]
  | own _ _ _ _ _ _ ih => rw [List.length_cons, List.length_cons, ih]
end
end D
end

section
set_option Elab.async false
set_option linter.all false
set_option maxRecDepth 100000
set_option maxHeartbeats 4000000
set_option exponentiation.threshold 200000
namespace D
open PySem L2 K0 Num
open PySem.W (Dat)
theorem kqd_fs (fs : List (List Int)) : PySem.W.kqdOk 9 (.list (fs.map tI)) = true := by
  simp only [PySem.W.kqdOk, List.all_eq_true]
  intro d hd
  obtain ⟨f, _, rfl⟩ := List.mem_map.mp hd
  exact kq_ints
section
variable {p : Option Addr} {K : PySem.W.Frag} {τ : List Sl} {tas : TA}
theorem E1.listL {ds : List Dat} (ha : A1 p K tas τ [.vw ds]) : E1 p K (tCB (fun xs H Q => ∃ p ys, xs = [.ref p] ∧ (SqL K H p ys ∨ SqT K H p ys) ∧ ∀ l, H l = none → Q (.ref l) (upd H l (.lst ys))) tas) τ (.own ds) := fun W L σ H Q rs o k => ha W L σ H _ rs o fun vs H1 ss e e1 o1 rv => by
  subst e
  cases rv with
  | cons a t =>
    cases t
    obtain ⟨a, vs, rfl, h1, h2⟩ := a
    refine ⟨a, vs, rfl, .inl h1.sq, fun l hl => ?_⟩
    have s := Same.new hl (.lst vs)
    exact k _ _ _ rfl (e1.trans (Ev.of s)) (o1.same s) ⟨l, vs, rfl, o1.back e1 hl, upd_same, h2.ev (W := fun _ => False) (Ev.of s) fun _ _ h => h⟩
end
end D
end

section
set_option Elab.async false
set_option linter.all false
set_option maxRecDepth 100000
set_option maxHeartbeats 4000000
set_option exponentiation.threshold 200000
namespace D
open PySem L2 K0 Num
open PySem.W (Dat)
section
variable {u m n a b c e f g p q r s m' n' : Int} {i j k : Nat}
end
end D
end

section
set_option Elab.async false
set_option linter.all false
set_option maxRecDepth 100000
set_option maxHeartbeats 4000000
set_option exponentiation.threshold 200000
namespace D
open PySem L2 K0 Num
open PySem.W (Dat)
section
variable {i j k : Nat} {a b c e f g : Int}
end
end D
end

section
set_option Elab.async false
set_option linter.all false
set_option maxRecDepth 100000
set_option maxHeartbeats 4000000
namespace L2
open PySem PySem.Spec PyProof.Rows
section
open PySem.SeqAt
open PySem.AutoSeq1 (wpAny_loadPart')
open PySem.MeetsSeq PySem.MeetsSeq2 PySem.MeetsSeq3
section
variable {prog : Program} {w : World} {A : Around} {E : Value → Shared → Prop} {s : Shared}
end
section
variable {prog : Program} {w : World} {A : Around} {E : Value → Shared → Prop} {s : Shared}
end
end
end L2
end

section
set_option Elab.async false
set_option linter.all false
set_option maxRecDepth 100000
set_option maxHeartbeats 1000000
namespace L2
open PySem PySem.Spec PyProof.Rows
section
variable {prog : Program} {w : World} {A : Around} {E : Value → Shared → Prop} {s : Shared}
end
section
variable {X : Cx}
end
end L2
namespace D
open PySem L2 K0 Num
open PySem.W (Dat)
section
variable {p : Option Addr} {K : PySem.W.Frag} {τ : List Sl} {tas : TA}
end
end D
end

section
set_option Elab.async false
set_option linter.all false
set_option maxRecDepth 100000
set_option maxHeartbeats 1000000
set_option exponentiation.threshold 200000
namespace D
open PySem L2 K0 Num
open PySem.W (Dat)
section
variable {u m n a b c e f g p q r s : Int} {i j k : Nat}
end
end D
end

section
set_option Elab.async false
set_option linter.all false
set_option maxRecDepth 100000
set_option maxHeartbeats 1000000
set_option exponentiation.threshold 200000
namespace D
open PySem L2 K0 Num
open PySem.W (Dat)
section
variable {a b c e f g a2 b2 c2 e2 f2 g2 X Y : Int} {i j k : Nat}
end
end D
end

section
set_option Elab.async false
set_option linter.all false
set_option maxRecDepth 100000
set_option maxHeartbeats 1000000
set_option exponentiation.threshold 200000
namespace D
open PySem L2 K0 Num
open PySem.W (Dat)
section
variable {p : Option Addr} {K : PySem.W.Frag} {τ : List Sl} {tas : TA} {te : TE} {E' : XK}
end
end D
end

section
set_option Elab.async false
set_option linter.all false
set_option maxRecDepth 100000
set_option maxHeartbeats 1000000
namespace L2
open PySem PySem.Spec PyProof.Rows
open PySem.W (Dat kqdOk kqdP kqdPs)
section
variable {X : Cx}
end
end L2
namespace D
open PySem L2 K0 Num
open PySem.W (Dat)
section
variable {p : Option Addr} {K : PySem.W.Frag} {τ : List Sl} {ta tb : TE}
end
end D
end

section
set_option Elab.async false
set_option linter.all false
set_option maxRecDepth 100000
set_option maxHeartbeats 1000000
set_option exponentiation.threshold 200000
namespace D
open PySem L2 K0 Num
open PySem.W (Dat)
end D
end

section
set_option Elab.async false
set_option linter.all false
set_option maxRecDepth 100000
set_option maxHeartbeats 1000000
set_option exponentiation.threshold 200000
namespace D
open PySem L2 K0 Num
open PySem.W (Dat)
section
variable {a b c e f g : Int} {i j k : Nat}
end
end D
end

section
set_option Elab.async false
set_option linter.all false
set_option maxRecDepth 100000
set_option maxHeartbeats 1000000
namespace D
open PySem L2 K0 Num
open PySem.W (Dat)
section
variable {p : Option Addr} {K : PySem.W.Frag} {τ : List Sl} {ta tb te : TE} {tt : TT} {E' : XK}
end
end D
end

section
set_option Elab.async false
set_option linter.all false
set_option maxRecDepth 100000
set_option maxHeartbeats 1000000
set_option exponentiation.threshold 200000
namespace D
open PySem L2 K0 Num
open PySem.W (Dat)
section
variable {p q r s m n a2 b2 c2 e2 f2 g2 X Y : Int} {i j k : Nat} {F : List Int}
end
end D
end

section
set_option Elab.async false
set_option linter.all false
set_option maxRecDepth 100000
set_option maxHeartbeats 1000000
set_option exponentiation.threshold 200000
namespace D
open PySem L2 K0 Num
open PySem.W (Dat)
section
variable {p q r s m n : Int} {i j k : Nat} {F : List Int}
end
end D
end

section
set_option Elab.async false
set_option linter.all false
set_option maxRecDepth 100000
set_option maxHeartbeats 1000000
set_option exponentiation.threshold 200000
namespace D
open PySem L2 K0 Num
open PySem.W (Dat)
section
variable {a b c e f g : Int} {i j k : Nat} {F : List Int} {D0 : Dat}
end
end D
end

section
set_option Elab.async false
set_option linter.all false
set_option maxRecDepth 100000
set_option maxHeartbeats 1000000
set_option exponentiation.threshold 200000
namespace L2
open PySem PySem.Spec PyProof.Rows
end L2
namespace D
open PySem L2 K0 Num
open PySem.W (Dat)
section
variable {p : Option Addr} {K : PySem.W.Frag} {τ : List Sl} {tb : TE}
end
end D
end

section
set_option Elab.async false
set_option linter.all false
set_option maxRecDepth 100000
set_option maxHeartbeats 1000000
set_option exponentiation.threshold 200000
namespace D
open PySem L2 K0 Num
open PySem.W (Dat)
section
variable {p q r s m n : Int} {i j k : Nat} {F : List Int} {D0 : Dat}
end
end D
end

section
set_option Elab.async false
set_option linter.all false
set_option maxRecDepth 100000
set_option maxHeartbeats 1000000
set_option exponentiation.threshold 200000
namespace L2
open PySem PySem.Spec PyProof.Rows
end L2
namespace D
open PySem L2 K0 Num
open PySem.W (Dat)
end D
end

section
set_option Elab.async false
set_option linter.all false
set_option maxRecDepth 100000
set_option maxHeartbeats 4000000
set_option exponentiation.threshold 200000
namespace D
open PySem L2 K0 Num
open PySem.W (Dat)
noncomputable def n4 (a b c e : Int) : Int := a * a + b * b + c * c + e * e
theorem n4_pos {a b c e : Int} (h : ∃ n ∈ [a, b, c, e], n ≠ 0) : 0 < n4 a b c e := nrm_pos (ns := [a, b, c, e]) rfl h
end D
end

section
set_option Elab.async false
set_option linter.all false
set_option maxRecDepth 100000
set_option maxHeartbeats 4000000
set_option exponentiation.threshold 200000
namespace D
open PySem L2 K0 Num
open PySem.W (Dat)
end D
end

section
set_option Elab.async false
set_option linter.all false
set_option maxRecDepth 100000
set_option maxHeartbeats 4000000
set_option exponentiation.threshold 200000
namespace D
open PySem L2 K0 Num
open PySem.W (Dat)
end D
end

section
set_option Elab.async false
set_option linter.all false
set_option maxRecDepth 100000
set_option maxHeartbeats 4000000
set_option exponentiation.threshold 200000
namespace D
open PySem L2 K0 Num
open PySem.W (Dat)
theorem sop44 (a b c e x y z w : Int) : sop [a, b, c, e] [x, y, z, w] = a * x + b * y + c * z + e * w := by simp [sop]; omega
theorem sop_n4 (a b c e : Int) : sop [a, b, c, e] [a, b, c, e] = n4 a b c e := by rw [sop44]; rfl
section
variable {x y z u v w f g h k l m R Q a b c e T1 T2 T3 n S : Int}
theorem bt_n4 {M : Nat} (bq : Bd (2 ^ M) [a, b, c, e]) : Bt (sop [a, b, c, e] [a, b, c, e]) (2 * M + 3) := by
  have := nrm_btG bq
  rw [sop_n4]; exact this
end
end D
end

section
set_option Elab.async false
set_option linter.all false
set_option maxRecDepth 100000
set_option maxHeartbeats 4000000
set_option exponentiation.threshold 200000
namespace L2
open PySem PySem.Spec PyProof.Rows
section
variable {X : Cx} {pos : Pos}
end
end L2
namespace D
open PySem L2 K0 Num
open PySem.W (Dat)
noncomputable def Go (p : Option Addr) (K : PySem.W.Frag) (W : Addr → Prop) (L : List Addr) (H : Hp) (nx : List Sl → Prop) (N : St → Hp → Prop) : Prop :=
  ∀ (W' : Addr → Prop) (L' : List Addr) σ' H' τ', nx τ' → Ev W H H' → Ok p W' H' → (∀ a, W a → ∃ ys, H' a = some (.lst ys)) → (∀ a, W' a → W a ∨ H a = none) → (∀ a, a ∈ L' → a ∈ L ∨ H a = none) → Rs p W' K H' L' σ' τ' → N σ' H'
noncomputable def Gr (p : Option Addr) (K : PySem.W.Frag) (W : Addr → Prop) (L : List Addr) (H : Hp) (rt : Sl → Prop) (R : VK) : Prop :=
  ∀ (W' : Addr → Prop) H' v s, rt s → Ev W H H' → Ok p W' H' → (∀ a, W a → ∃ ys, H' a = some (.lst ys)) → (∀ a, W' a → W a ∨ H a = none) → Rr p W' K L H H' v s → R v H'
section
variable {p : Option Addr} {K : PySem.W.Frag} {W W1 : Addr → Prop} {L L1 : List Addr} {σ : St} {H H1 : Hp} {τ τ' : List Sl} {ta tb te : TE} {v : V} {s : Sl} {nx bk ct M : List Sl → Prop} {rt : Sl → Prop} {t u : TS} {N : St → Hp → Prop} {R : VK} {wi : TI} {ds : List Dat}
theorem Go.on (g : Go p K W L H nx N) (e1 : Ev W H H1) (w1 : ∀ a, W a → ∃ ys, H1 a = some (.lst ys)) (n1 : ∀ a, W1 a → W a ∨ H a = none) (l1 : ∀ a, a ∈ L1 → a ∈ L ∨ H a = none) : Go p K W1 L1 H1 nx N := fun W2 L2 σ2 H2 τ2 c e2 o2 w2 n2 l2 r2 => by
  have hn : ∀ a, H1 a = none → H a = none := fun a ha => e1.none w1 ha
  exact g W2 L2 σ2 H2 τ2 c (e1.chain e2 n1) o2 (al_chain w1 w2 e2) (fun a ha => (n2 a ha).elim (n1 a) fun z => .inr (hn a z)) (fun a ha => (l2 a ha).elim (l1 a) fun z => .inr (hn a z)) r2
theorem Gr.on (g : Gr p K W L H rt R) (e1 : Ev W H H1) (w1 : ∀ a, W a → ∃ ys, H1 a = some (.lst ys)) (n1 : ∀ a, W1 a → W a ∨ H a = none) (l1 : ∀ a, a ∈ L1 → a ∈ L ∨ H a = none) : Gr p K W1 L1 H1 rt R := fun W2 H2 v s c e2 o2 w2 n2 rv => by
  have hn : ∀ a, H1 a = none → H a = none := fun a ha => e1.none w1 ha
  exact g W2 H2 v s c (e1.chain e2 n1) o2 (al_chain w1 w2 e2) (fun a ha => (n2 a ha).elim (n1 a) fun z => .inr (hn a z)) (rv.base hn l1)
end
end D
end

section
set_option Elab.async false
set_option linter.all false
set_option maxRecDepth 100000
set_option maxHeartbeats 4000000
set_option exponentiation.threshold 200000
namespace D
open PySem L2 K0 Num
open PySem.W (Dat)
section
variable {p : Option Addr} {K : PySem.W.Frag} {W : Addr → Prop} {L : List Addr} {σ : St} {H : Hp} {τ τ' : List Sl} {te : TE} {nx bk ct : List Sl → Prop} {rt : Sl → Prop} {u : TS} {q : Addr} {ip N M M1 : Nat} {tas : TA}
end
theorem S2.ifB {q : Addr} {ip N M M1 : Nat} {K : PySem.W.Frag} {τ : List Sl} {nx : List Sl → Prop} {rt : Sl → Prop} {t u : TS} {tc : TT} {b : Bool} {X : List Sl → Prop} (h : T1 none K tc τ b) (h0 : b = false → X τ) (ht : b = true → S2 q ip N M1 K t τ X rt) (hu : ∀ τ', X τ' → S2 q ip M1 M K u τ' nx rt) (h1 : N ≤ M1 := by omega) (h2 : M1 ≤ M := by omega) : S2 q ip N M K (tSeq (tIfS tc t tNext) u) τ nx rt :=
  S2.seq (M1 := M1) (X := X) (S2.iff (T1.ofB h) (fun e => ht e.symm) fun e => S2.next (h0 e.symm) h1) hu h2
end D
end

section
set_option Elab.async false
set_option linter.all false
set_option maxRecDepth 100000
set_option maxHeartbeats 4000000
set_option exponentiation.threshold 200000
namespace D
open PySem L2 K0 Num
open PySem.W (Dat)
section
variable {p : Option Addr} {q : Addr} {ip N M N1 M1 : Nat} {K : PySem.W.Frag} {W : Addr → Prop} {L : List Addr} {σ : St} {H H0 H1 H2 H' : Hp} {τ τ' : List Sl} {ta tb te : TE} {tas : TA} {v : V} {s : Sl} {nx : List Sl → Prop} {rt : Sl → Prop} {t u : TS} {ds : List Dat} {wi : TI} {tt : TT} {E' : XK}
theorem S2.asgO2 {i : Nat} {C : List Dat → Prop} (h : E2 q ip N M1 K te τ (fun s => ∃ ds, s = .own ds ∧ noLs ds = true ∧ C ds)) (m : ∀ ds, C ds → nx (τ.set i (.own ds))) (hi : i ≠ ip := by decide) (hm : M1 ≤ M := by omega) : S2 q ip N M K (tAsg te (gName i)) τ nx rt := fun W L σ H D r o p q1 q2 => by
  refine h W L σ H _ r o p fun v H1 s c e1 o1 pu rv => ?_
  obtain ⟨ds, rfl, nl, cd⟩ := c
  obtain ⟨a, vs, rfl, h1, h2, h3⟩ := rv
  have nq : q ≠ a := fun z => p.pu.nn (z ▸ h1)
  have wid : ∀ b, (W b ∨ b = a) → ¬ W b → H b = none := fun b hb nb => (hb.resolve_left nb) ▸ h1
  have r1 : Rs none (fun b => W b ∨ b = a) K H1 L σ τ := (r.wide (fun _ h => .inl h) wid).ev3 e1 (.inl p.wq) p.lq
  have al : a ∉ L := fun z => by obtain ⟨_, y⟩ := r.own_in a z; rw [h1] at y; cases y
  obtain ⟨L', l, r2⟩ := r1.setO (.inr rfl) (fun z => by cases z) al h2 (h3.free nl) i
  refine q1 _ L' _ H1 _ (m ds cd) (ofq e1 p.wq) ⟨fun q hq => (by cases hq), fun b hb => ?_⟩ o1.al (fun b hb => hb.imp id fun (z : b = a) => by rw [z]; exact h1) (fun b hb => ?_) r2 ⟨.inl p.wq, fun z => ?_, by rw [List.getElem?_set_ne hi]; exact p.sq, pu.up hm⟩
  · rcases hb with hb | rfl
    · exact o1.al b hb
    · exact ⟨_, h2⟩
  · rcases l b hb with rfl | hb
    · exact .inr h1
    · exact .inl hb
  · rcases l q z with y | y
    · exact nq y
    · exact p.lq y
theorem S2.frz {i : Nat} {ds : List Dat} {τ' : List Sl} (h : τ[i]? = some (.own ds)) (m : S2 q ip N M K t τ' nx rt) (e : τ.set i (.dat (.list ds)) = τ' := by rfl) : S2 q ip N M K t τ nx rt := fun W L σ H D r o p3 q1 q2 => by
  subst e
  obtain ⟨a, L', h1, h2, h3, h4, ⟨vs, h5⟩, h6⟩ := r.frz h
  have keep : ∀ {H' : Hp}, Ev (fun b => W b ∧ b ≠ a) H H' → H' a = some (.lst vs) := fun ev => ev.keep _ _ (fun z => z.2 rfl) h5
  refine m _ L' σ H D h6 ⟨fun q hq => (by cases hq), fun b hb => o.al b hb.1⟩ ⟨⟨p3.wq, fun z => p3.lq (z ▸ h2)⟩, fun z => p3.lq (h1 _ z), p3.sq, p3.pu⟩ (fun W' L2 σ' H' τ' n ev ok al wn ln rs pp => ?_) fun W' H' v s n ev ok al wn rr pp => ?_
  · refine q1 W' L2 σ' H' τ' n (ev.mono fun _ z => z.1) ok (fun b hb => ?_) (fun b hb => (wn b hb).imp (fun z => z.1) id) (fun b hb => (ln b hb).imp (h1 b) id) rs pp
    by_cases z : b = a
    · exact ⟨vs, z ▸ keep ev⟩
    · exact al b ⟨hb, z⟩
  · refine q2 W' H' v s n (ev.mono fun _ z => z.1) ok (fun b hb => ?_) (fun b hb => (wn b hb).imp (fun z => z.1) id) ?_ pp
    · by_cases z : b = a
      · exact ⟨vs, z ▸ keep ev⟩
      · exact al b ⟨hb, z⟩
    · cases s with
      | own ds' =>
        obtain ⟨a', vs', e1, e2, e3, e4⟩ := rr
        exact ⟨a', vs', e1, e2.imp (h1 _) id, e3, e4⟩
      | _ => exact rr
theorem S2.letO2 {i : Nat} {C : List Dat → Prop} (h : E2 q ip N M1 K te τ (fun s => ∃ ds, s = .own ds ∧ noLs ds = true ∧ C ds)) (m : ∀ ds, C ds → S2 q ip M1 M K u (τ.set i (.own ds)) nx rt) (hi : i ≠ ip := by decide) (hm : M1 ≤ M := by omega) : S2 q ip N M K (tSeq (tAsg te (gName i)) u) τ nx rt :=
  S2.seq (M1 := M1) (X := fun τ' => ∃ ds, C ds ∧ τ' = τ.set i (.own ds)) (S2.asgO2 h (fun ds c => ⟨ds, c, rfl⟩) hi (Nat.le_refl _)) (fun τ' ⟨ds, c, e⟩ => e ▸ m ds c) hm
end
section
variable {x y z u v w f g h k l m a b c e : Int}
end
end D
end

section
set_option Elab.async false
set_option linter.all false
set_option maxRecDepth 100000
set_option maxHeartbeats 4000000
set_option exponentiation.threshold 200000
namespace D
open PySem L2 K0 Num
open PySem.W (Dat)
section
variable {a b c e a' b' c' e' x y z f g h : Int}
end
end D
end

section
set_option Elab.async false
set_option linter.all false
set_option maxRecDepth 100000
set_option maxHeartbeats 4000000
set_option exponentiation.threshold 200000
namespace D
open PySem L2 K0 Num
open PySem.W (Dat)
noncomputable def S2N (q : Addr) (ip N : Nat) (K : PySem.W.Frag) (ts : TS) (τ : List Sl) (nx : List Sl → Prop) (rt : Sl → Prop) : Prop := ∀ (W : Addr → Prop) (L : List Addr) (σ : St) (H : Hp) (D : Ends), Rs none W K H L σ τ → Ok none W H → P3 q ip N W L σ H → Go none K W L H nx D.nx → Gr none K W L H rt D.rt → ts D σ H
section
variable {p : Option Addr} {q : Addr} {ip N M N1 M1 : Nat} {K : PySem.W.Frag} {W : Addr → Prop} {L : List Addr} {σ : St} {H H0 H1 H2 H' : Hp} {τ τ' : List Sl} {ta tb te : TE} {tas : TA} {v : V} {s : Sl} {nx : List Sl → Prop} {rt : Sl → Prop} {t u : TS} {ds : List Dat} {wi : TI} {tt : TT} {E' : XK}
theorem S2N.seq {X : List Sl → Prop} (h1 : S2 q ip N M1 K t τ X rt) (h2 : ∀ τ', X τ' → S2N q ip M1 K u τ' nx rt) : S2N q ip N K (tSeq t u) τ nx rt := fun W L σ H D r o p q1 q2 =>
  h1 W L σ H _ r o p (fun W1 L1 σ1 H1 τ1 m e1 o1 w1 n1 l1 r1 p1 => h2 τ1 m W1 L1 σ1 H1 D r1 o1 p1 (q1.on e1 w1 n1 l1) (q2.on e1 w1 n1 l1)) fun W' H' v s c e o' al n rv _ => q2 W' H' v s c e o' al n rv
theorem S2N.letC {C : Dat → Prop} {i : Nat} (h : E2 q ip N M1 K te τ (fun s => ∃ d, s = .dat d ∧ C d)) (m : ∀ d, C d → S2N q ip M1 K u (τ.set i (.dat d)) nx rt) (hi : i ≠ ip := by decide) : S2N q ip N K (tSeq (tAsg te (gName i)) u) τ nx rt :=
  S2N.seq (M1 := M1) (X := fun τ' => ∃ d, C d ∧ τ' = τ.set i (.dat d)) (S2.asg h (fun s ⟨d, e, _⟩ => by rw [e]; exact ⟨rfl, fun z => by cases z⟩) (fun s ⟨d, e, c⟩ => ⟨d, c, by rw [e]⟩) hi (Nat.le_refl _)) fun τ' ⟨d, c, e⟩ => e ▸ m d c
theorem S2N.letO2 {i : Nat} {C : List Dat → Prop} (h : E2 q ip N M1 K te τ (fun s => ∃ ds, s = .own ds ∧ noLs ds = true ∧ C ds)) (m : ∀ ds, C ds → S2N q ip M1 K u (τ.set i (.own ds)) nx rt) (hi : i ≠ ip := by decide) : S2N q ip N K (tSeq (tAsg te (gName i)) u) τ nx rt :=
  S2N.seq (M1 := M1) (X := fun τ' => ∃ ds, C ds ∧ τ' = τ.set i (.own ds)) (S2.asgO2 h (fun ds c => ⟨ds, c, rfl⟩) hi (Nat.le_refl _)) (fun τ' ⟨ds, c, e⟩ => e ▸ m ds c)
theorem S2N.let1 {i : Nat} {d : Dat} {τ' : List Sl} (h : E1 none K te τ (.dat d)) (m : S2N q ip N K u τ' nx rt) (e : τ.set i (.dat d) = τ' := by rfl) (hi : i ≠ ip := by decide) : S2N q ip N K (tSeq (tAsg te (gName i)) u) τ nx rt :=
  S2N.letC (C := fun x => x = d) (E2.of (E.mono h fun s z => ⟨d, z.symm, rfl⟩)) (fun x z => by rw [z, e]; exact m) hi
theorem S2N.frz {i : Nat} {ds : List Dat} {τ' : List Sl} (h : τ[i]? = some (.own ds)) (m : S2N q ip N K t τ' nx rt) (e : τ.set i (.dat (.list ds)) = τ' := by rfl) : S2N q ip N K t τ nx rt := fun W L σ H D r o p3 q1 q2 => by
  subst e
  obtain ⟨a, L', h1, h2, h3, h4, ⟨vs, h5⟩, h6⟩ := r.frz h
  have keep : ∀ {H' : Hp}, Ev (fun b => W b ∧ b ≠ a) H H' → H' a = some (.lst vs) := fun ev => ev.keep _ _ (fun z => z.2 rfl) h5
  have al2 : ∀ {H' : Hp}, Ev (fun b => W b ∧ b ≠ a) H H' → (∀ b, W b ∧ b ≠ a → ∃ ys, H' b = some (.lst ys)) → ∀ b, W b → ∃ ys, H' b = some (.lst ys) := fun ev al b hb => by
    by_cases z : b = a
    · exact ⟨vs, z ▸ keep ev⟩
    · exact al b ⟨hb, z⟩
  refine m _ L' σ H D h6 ⟨fun q hq => (by cases hq), fun b hb => o.al b hb.1⟩ ⟨⟨p3.wq, fun z => p3.lq (z ▸ h2)⟩, fun z => p3.lq (h1 _ z), p3.sq, p3.pu⟩ (fun W' L2 σ' H' τ' n ev ok al wn ln rs => ?_) fun W' H' v s n ev ok al wn rr => ?_
  · exact q1 W' L2 σ' H' τ' n (ev.mono fun _ z => z.1) ok (al2 ev al) (fun b hb => (wn b hb).imp (fun z => z.1) id) (fun b hb => (ln b hb).imp (h1 b) id) rs
  · refine q2 W' H' v s n (ev.mono fun _ z => z.1) ok (al2 ev al) (fun b hb => (wn b hb).imp (fun z => z.1) id) ?_
    cases s with
    | own ds' =>
      obtain ⟨a', vs', e1, e2, e3, e4⟩ := rr
      exact ⟨a', vs', e1, e2.imp (h1 _) id, e3, e4⟩
    | _ => exact rr
theorem S.purse3N {i : Nat} {R0 : List Dat → List Dat → Prop} {ss : List Sl} {ds : List Dat} {x y n : Int} {τ' : List Sl} (ha : A1 none K tas τ ss) (h0 : R0 ds [.int x, .int y, .int n]) (hn : 0 ≤ n ∧ n ≤ 2 ^ 20) (m : ∀ q, S2N q i (2 ^ 20) K u τ' nx rt) (hi : i < τ.length) (e : τ.set i .un = τ' := by rfl) (hd : datsOf ss = some ds := by rfl) : S none K (tSeq (tAsg (tCall (spN K R0) [] E' tas) (gName i)) u) τ nx rt := fun W L σ H D r o q1 q2 => by
  refine ha W L σ H _ r o fun vs H1 ss' es e1 o1 rv => ?_
  subst es
  show spN K R0 (vs ++ []) H1 _ E'
  rw [List.append_nil]
  refine ⟨ds, _, rv.dz hd, h0, fun q0 H2 ws s nq hq zq => ?_⟩
  have ew : ws = [.int x, .int y, .int n] := by
    cases zq with
    | cons a t => cases t with
      | cons b t => cases t with
        | cons c t => cases t; cases a; cases b; cases c; rfl
  subst ew
  have r1 := r.ev e1 o.pw
  have r2 : Rs none (fun b => W b ∨ b = q0) K H2 L σ τ := (Rs.wide (W' := fun b => W b ∨ b = q0) r1 (fun _ h => .inl h) fun b hb nb => (hb.resolve_left nb) ▸ nq).ev (Ev.of s) fun q hq => by cases hq
  obtain ⟨L', l, r3⟩ := r2.set (v := .ref q0) (s := .un) (.inl rfl) i
  have nh : H q0 = none := o1.back e1 nq
  have ql : q0 ∉ L' := fun z => by obtain ⟨_, y⟩ := r.own_in q0 (l q0 z); rw [nh] at y; cases y
  have e2 : Ev (fun b => W b ∨ b = q0) H H2 := (e1.mono fun a z => by cases z).trans (Ev.of s)
  have o2 : Ok none (fun b => W b ∨ b = q0) H2 := ⟨fun q hq => (by cases hq), fun b hb => by
    rcases hb with hb | rfl
    · obtain ⟨ys, h⟩ := o1.al b hb; exact ⟨ys, s _ _ h⟩
    · exact ⟨_, hq⟩⟩
  have hn2 : ∀ a, H2 a = none → H a = none := fun a ha => by
    cases z : H a with
    | none => rfl
    | some u => rw [s _ _ (e1.keep _ _ (fun y => by cases y) z)] at ha; cases ha
  have eW : Ev W H H2 := (e1.mono fun a z => by cases z).trans (Ev.of s)
  have nW : ∀ a, (W a ∨ a = q0) → W a ∨ H a = none := fun a ha => ha.imp id fun z => by rw [z]; exact nh
  rw [e] at r3
  have g1 : Go none K W L H nx D.nx := q1
  have g2 : Gr none K W L H rt D.rt := q2
  have aW : ∀ a, W a → ∃ ys, H2 a = some (.lst ys) := fun a ha => o2.al a (.inl ha)
  exact m q0 _ L' _ H2 D r3 o2 ⟨.inr rfl, ql, by rw [List.getElem?_set_self (by rw [Rs.slen r]; exact hi)], x, y, n, hq, hn.1, by omega⟩ (g1.on eW aW nW fun a ha => .inl (l a ha)) (g2.on eW aW nW fun a ha => .inl (l a ha))
end
end D
end

section
set_option Elab.async false
set_option linter.all false
set_option maxRecDepth 100000
set_option maxHeartbeats 4000000
set_option exponentiation.threshold 200000
namespace D
open PySem L2 K0 Num
open PySem.W (Dat)
end D
end

section
set_option Elab.async false
set_option linter.all false
set_option maxRecDepth 100000
set_option maxHeartbeats 1000000
namespace HT
open PySem PySem.Spec PyProof.Rows PySem.Builtin
section
variable {prog : Program} {w : World} {A : Around} {E : Value → Shared → Prop} {s : Shared}
theorem pick_rev (xs : Array Value) : ((List.range xs.size).filterMap fun (m : Nat) => xs[(((xs.size : Int) - 1) + (m : Int) * (-1)).toNat]?).toArray = xs.toList.reverse.toArray := by
  congr 1
  have e : ∀ m ∈ List.range xs.size, (fun (m : Nat) => xs[(((xs.size : Int) - 1) + (m : Int) * (-1)).toNat]?) m = (fun m => xs.toList.reverse[m]?) m := by
    intro m hm
    have hm := List.mem_range.mp hm
    have : (((xs.size : Int) - 1) + (m : Int) * (-1)).toNat = xs.size - 1 - m := by omega
    show xs[(((xs.size : Int) - 1) + (m : Int) * (-1)).toNat]? = xs.toList.reverse[m]?
    rw [this, List.getElem?_reverse (by simpa using hm)]
    simp
  have go : ∀ (l : List Value), (List.range l.length).filterMap (fun m => l[m]?) = l := by
    intro l
    induction l with
    | nil => rfl
    | cons a l ih =>
      rw [List.length_cons, List.range_succ_eq_map, List.filterMap_cons]
      simp only [List.getElem?_cons_zero]
      rw [List.filterMap_map]
      congr 1
  have fc : ∀ (l : List Nat) (f g : Nat → Option Value), (∀ m ∈ l, f m = g m) → l.filterMap f = l.filterMap g := by
    intro l f g
    induction l with
    | nil => intro _; rfl
    | cons a l ih =>
      intro h
      rw [List.filterMap_cons, List.filterMap_cons, h a List.mem_cons_self, ih fun m hm => h m (List.mem_cons_of_mem _ hm)]
  rw [fc _ _ _ e]
  have := go xs.toList.reverse
  rw [List.length_reverse] at this
  simpa using this
end
end HT
namespace L2
open PySem PySem.Spec PyProof.Rows
section
variable {X : Cx} {e st : Expr} {te ts : TE} {p2 pos : Pos}
noncomputable def tRev (r : V → Hp → VK → Prop) (te ts : TE) : TE := fun σ H Q => te σ H fun x H1 => ts σ H1 fun y H2 => y = .int (-1) ∧ r x H2 Q
end
end L2
namespace D
open PySem L2 K0 Num
open PySem.W (Dat)
section
variable {p : Option Addr} {K : PySem.W.Frag} {τ : List Sl} {te ts : TE}
end
end D
end

section
set_option Elab.async false
set_option linter.all false
set_option maxRecDepth 100000
set_option maxHeartbeats 1000000
namespace L2
open PySem PySem.Spec PyProof.Rows
section
variable {prog : Program} {w : World} {A : Around} {E : Value → Shared → Prop} {s : Shared}
end
section
variable {X : Cx}
end
end L2
namespace D
open PySem L2 K0 Num
open PySem.W (Dat)
section
variable {p : Option Addr} {K : PySem.W.Frag} {τ : List Sl} {tas : TA}
end
end D
end

section
set_option Elab.async false
set_option linter.all false
set_option maxRecDepth 100000
set_option maxHeartbeats 4000000
set_option exponentiation.threshold 200000
namespace D
open PySem L2 K0 Num
open PySem.W (Dat)
section
variable {u m n a b c e f g p q r s m' n' : Int} {i j k : Nat}
end
end D
end

section
set_option Elab.async false
set_option linter.all false
set_option maxRecDepth 100000
set_option maxHeartbeats 4000000
set_option exponentiation.threshold 200000
namespace D
open PySem L2 K0 Num
open PySem.W (Dat)
end D
end

section
set_option Elab.async false
set_option linter.all false
set_option maxRecDepth 100000
set_option maxHeartbeats 4000000
set_option exponentiation.threshold 200000
namespace D
open PySem L2 K0 Num
open PySem.W (Dat)
section
variable {p : Option Addr} {K : PySem.W.Frag} {τ : List Sl} {tas : TA} {ta tb : TE}
end
end D
namespace D
open PySem L2 K0 Num
open PySem.W (Dat)
end D
namespace D
open PySem L2 K0 Num
end D
end

section
set_option Elab.async false
set_option linter.all false
set_option maxRecDepth 100000
set_option maxHeartbeats 4000000
set_option exponentiation.threshold 200000
namespace D
open PySem L2 K0 Num
open PySem.W (Dat)
section
variable {p : Option Addr} {K : PySem.W.Frag} {W : Addr → Prop} {L : List Addr} {σ : St} {H H0 H1 H2 : Hp} {τ τ' : List Sl} {ta tb te : TE} {tas : TA} {v : V} {s : Sl} {nx : List Sl → Prop} {rt : Sl → Prop} {t u : TS} {ds : List Dat} {E' : XK}
variable {P : Program} {w : World} {mg : Str → Option Value} {base : Heap}
end
noncomputable def In (a b c d e f x y z : Int) : Prop := ∃ m1 m2 m3 : Int, x = m1 * a + m2 * b + m3 * d ∧ y = m2 * c + m3 * e ∧ z = m3 * f
structure Hnf (a b c d e f : Int) : Prop where
  a0 : 0 < a
  c0 : 0 < c
  f0 : 0 < f
  b0 : 0 ≤ b
  b1 : b < a
  d0 : 0 ≤ d
  d1 : d < a
  e0 : 0 ≤ e
  e1 : e < c
theorem dvd_pos_eq {a b : Int} (ha : 0 < a) (hb : 0 < b) (h1 : a ∣ b) (h2 : b ∣ a) : a = b := Int.le_antisymm (Int.le_of_dvd hb h1) (Int.le_of_dvd ha h2)
theorem res_eq {a b m q : Int} (hm : 0 < m) (a0 : 0 ≤ a) (a1 : a < m) (b0 : 0 ≤ b) (b1 : b < m) (h : a = q * m + b) : q = 0 ∧ a = b := by
  have hq : q = 0 := by
    rcases (by omega : q ≤ -1 ∨ q = 0 ∨ 1 ≤ q) with z | z | z
    · have : q * m ≤ -1 * m := Int.mul_le_mul_of_nonneg_right z (by omega)
      omega
    · exact z
    · have : 1 * m ≤ q * m := Int.mul_le_mul_of_nonneg_right z (by omega)
      omega
  exact ⟨hq, by rw [h, hq]; omega⟩
theorem Hnf.one {a b c d e f a' b' c' d' e' f' : Int} (h : Hnf a b c d e f) (h' : Hnf a' b' c' d' e' f') (i : ∀ x y z, In a b c d e f x y z ↔ In a' b' c' d' e' f' x y z) : a = a' ∧ b = b' ∧ c = c' ∧ d = d' ∧ e = e' ∧ f = f' := by
  have key : ∀ {a b c d e f a' b' c' d' e' f' : Int}, Hnf a b c d e f → Hnf a' b' c' d' e' f' → (∀ x y z, In a b c d e f x y z → In a' b' c' d' e' f' x y z) → f' ∣ f ∧ c' ∣ c ∧ a' ∣ a := by
    intro a b c d e f a' b' c' d' e' f' h h' i
    obtain ⟨_, _, m3, _, _, e3⟩ := i d e f ⟨0, 0, 1, by omega, by omega, by omega⟩
    obtain ⟨_, n2, n3, _, g2, g3⟩ := i b c 0 ⟨0, 1, 0, by omega, by omega, by omega⟩
    obtain ⟨k1, k2, k3, j1, j2, j3⟩ := i a 0 0 ⟨1, 0, 0, by omega, by omega, by omega⟩
    have f0 := h'.f0
    have c0 := h'.c0
    have n30 : n3 = 0 := (Int.mul_eq_zero.mp g3.symm).resolve_right (by omega)
    have k30 : k3 = 0 := (Int.mul_eq_zero.mp j3.symm).resolve_right (by omega)
    subst n30 k30
    have k20 : k2 = 0 := (Int.mul_eq_zero.mp (show k2 * c' = 0 by omega)).resolve_right (by omega)
    subst k20
    exact ⟨⟨m3, by rw [e3, Int.mul_comm]⟩, ⟨n2, by rw [g2, Int.mul_comm]; omega⟩, ⟨k1, by rw [j1, Int.mul_comm]; omega⟩⟩
  obtain ⟨p1, p2, p3⟩ := key h h' fun x y z => (i x y z).mp
  obtain ⟨q1, q2, q3⟩ := key h' h fun x y z => (i x y z).mpr
  have ef := dvd_pos_eq h'.f0 h.f0 p1 q1
  have ec := dvd_pos_eq h'.c0 h.c0 p2 q2
  have ea := dvd_pos_eq h'.a0 h.a0 p3 q3
  subst ef ec ea
  obtain ⟨n1, n2, n3, g1, g2, g3⟩ := (i b c' 0).mp ⟨0, 1, 0, by omega, by omega, by omega⟩
  obtain ⟨m1, m2, m3, e1, e2, e3⟩ := (i d e f').mp ⟨0, 0, 1, by omega, by omega, by omega⟩
  have f0 := h.f0
  have c0 := h.c0
  have n30 : n3 = 0 := (Int.mul_eq_zero.mp g3.symm).resolve_right (by omega)
  subst n30
  have n21 : n2 = 1 := Int.eq_of_mul_eq_mul_right (a := c') (by omega) (by omega)
  subst n21
  have m31 : m3 = 1 := Int.eq_of_mul_eq_mul_right (a := f') (by omega) (by omega)
  subst m31
  obtain ⟨_, eb⟩ := res_eq h.a0 h.b0 h.b1 h'.b0 h'.b1 (q := n1) (by omega)
  obtain ⟨z2, ee⟩ := res_eq h.c0 h.e0 h.e1 h'.e0 h'.e1 (q := m2) (by omega)
  subst z2
  obtain ⟨_, ed⟩ := res_eq h.a0 h.d0 h.d1 h'.d0 h'.d1 (q := m1) (by omega)
  exact ⟨rfl, eb, rfl, ed, ee, rfl⟩
theorem In.tidy {a b c d e f q r s : Int} (x y z : Int) : In a b c d e f x y z ↔ In a (b - q * a) c (d - s * (b - q * a) - r * a) (e - s * c) f x y z := by
  constructor
  · rintro ⟨m1, m2, m3, h1, h2, h3⟩
    exact ⟨m1 + m2 * q + m3 * r, m2 + s * m3, m3, by rw [h1]; grind, by rw [h2]; grind, h3⟩
  · rintro ⟨m1, m2, m3, h1, h2, h3⟩
    exact ⟨m1 - (m2 - s * m3) * q - m3 * r, m2 - s * m3, m3, by rw [h1]; grind, by rw [h2]; grind, h3⟩
noncomputable def Dr (N v1 v2 v3 A B C D E F : Int) : Prop := 0 < A ∧ 0 < C ∧ 0 < F ∧ ∀ m1 m2 m3 : Int, N ∣ v1 * m1 + v2 * m2 + v3 * m3 ↔ In A B C D E F m1 m2 m3
theorem In.step {a b c d e f N l1 l2 l3 v1 v2 v3 A B C D E F : Int} (h : Dr N v1 v2 v3 A B C D E F) (g1 : N ∣ l1 * a - v1) (g2 : N ∣ l1 * b + l2 * c - v2) (g3 : N ∣ l1 * d + l2 * e + l3 * f - v3) (x y z : Int) :
    In (A * a) (B * a + C * b) (C * c) (D * a + E * b + F * d) (E * c + F * e) (F * f) x y z ↔ In a b c d e f x y z ∧ N ∣ l1 * x + l2 * y + l3 * z := by
  obtain ⟨_, _, _, hd⟩ := h
  have lin : ∀ m1 m2 m3 : Int, l1 * (m1 * a + m2 * b + m3 * d) + l2 * (m2 * c + m3 * e) + l3 * (m3 * f) = (v1 * m1 + v2 * m2 + v3 * m3) + ((l1 * a - v1) * m1 + (l1 * b + l2 * c - v2) * m2 + (l1 * d + l2 * e + l3 * f - v3) * m3) := by intro m1 m2 m3; grind
  have dv : ∀ m1 m2 m3 : Int, N ∣ (l1 * a - v1) * m1 + (l1 * b + l2 * c - v2) * m2 + (l1 * d + l2 * e + l3 * f - v3) * m3 := fun m1 m2 m3 => Int.dvd_add (Int.dvd_add (Int.dvd_mul_of_dvd_left g1) (Int.dvd_mul_of_dvd_left g2)) (Int.dvd_mul_of_dvd_left g3)
  constructor
  · rintro ⟨n1, n2, n3, h1, h2, h3⟩
    refine ⟨⟨n1 * A + n2 * B + n3 * D, n2 * C + n3 * E, n3 * F, by rw [h1]; grind, by rw [h2]; grind, by rw [h3]; grind⟩, ?_⟩
    have q := (hd (n1 * A + n2 * B + n3 * D) (n2 * C + n3 * E) (n3 * F)).mpr ⟨n1, n2, n3, rfl, rfl, rfl⟩
    have el := lin (n1 * A + n2 * B + n3 * D) (n2 * C + n3 * E) (n3 * F)
    have ex : l1 * x + l2 * y + l3 * z = l1 * ((n1 * A + n2 * B + n3 * D) * a + (n2 * C + n3 * E) * b + n3 * F * d) + l2 * ((n2 * C + n3 * E) * c + n3 * F * e) + l3 * (n3 * F * f) := by rw [h1, h2, h3]; grind
    rw [ex, el]
    exact Int.dvd_add q (dv _ _ _)
  · rintro ⟨⟨m1, m2, m3, h1, h2, h3⟩, hN⟩
    have el := lin m1 m2 m3
    rw [h1, h2, h3, el] at hN
    have q := (Int.dvd_iff_dvd_of_dvd_add hN).mpr (dv m1 m2 m3)
    obtain ⟨n1, n2, n3, k1, k2, k3⟩ := (hd m1 m2 m3).mp q
    exact ⟨n1, n2, n3, by rw [h1, k1, k2, k3]; grind, by rw [h2, k2, k3]; grind, by rw [h3, k3]; grind⟩
theorem cop_dvd {g v m s t u : Int} (t0 : t ≠ 0) (hs : g = s * t) (hu : v = t * u) (hc : Nat.gcd s.natAbs u.natAbs = 1) (h : g ∣ v * m) : s ∣ m := by
  obtain ⟨k, hk⟩ := h
  have e : u * m = s * k := by
    refine Int.eq_of_mul_eq_mul_left t0 ?_
    have e1 : t * (u * m) = v * m := by rw [hu]; grind
    rw [e1, hk, hs]; grind
  have d : s.natAbs ∣ u.natAbs * m.natAbs := by
    rw [← Int.natAbs_mul, e]
    exact Int.natAbs_dvd_natAbs.mpr (Int.dvd_mul_right _ _)
  exact Int.natAbs_dvd_natAbs.mp (Nat.Coprime.dvd_of_dvd_mul_left hc d)
structure Gcs (n v g s u : Int) : Prop where
  g0 : 0 < g
  s0 : 0 < s
  hn : n = s * g
  hv : v = g * u
  co : Nat.gcd s.natAbs u.natAbs = 1
theorem gc_of {n v : Int} (hn : 0 < n) : Gcs n v (gcdN [n, v]) (n / (gcdN [n, v] : Int)) (v / (gcdN [n, v] : Int)) := by
  have e : gcdN [n, v] = Nat.gcd n.natAbs v.natAbs := by unfold gcdN; simp
  have gp : 0 < gcdN [n, v] := gcdN_pos ⟨n, by simp, by omega⟩
  have d1 : (gcdN [n, v] : Int) ∣ n := gcdN_dvd (by simp)
  have d2 : (gcdN [n, v] : Int) ∣ v := gcdN_dvd (by simp)
  have hs : n = n / (gcdN [n, v] : Int) * (gcdN [n, v] : Int) := (Int.ediv_mul_cancel d1).symm
  have s0 : 0 < n / (gcdN [n, v] : Int) := by
    rcases (by omega : n / (gcdN [n, v] : Int) ≤ 0 ∨ 0 < n / (gcdN [n, v] : Int)) with z | z
    · have := Int.mul_le_mul_of_nonneg_right z (show (0 : Int) ≤ (gcdN [n, v] : Int) by omega)
      omega
    · exact z
  refine ⟨by omega, s0, hs, (Int.mul_ediv_cancel' d2).symm, ?_⟩
  rw [Int.natAbs_ediv_of_dvd d1, Int.natAbs_ediv_of_dvd d2, Int.natAbs_natCast, e]
  exact Nat.coprime_div_gcd_div_gcd (by rw [← e]; exact gp)
theorem dr_of {N v1 v2 v3 g1 g2 g3 A C F u1 u2 u3 B D E : Int} (h1 : Gcs N v1 g1 A u1) (h2 : Gcs g1 v2 g2 C u2) (h3 : Gcs g2 v3 g3 F u3) (hB : N ∣ v1 * B + v2 * C) (hE : g1 ∣ v2 * E + v3 * F) (hD : N ∣ v1 * D + (v2 * E + v3 * F)) : Dr N v1 v2 v3 A B C D E F := by
  refine ⟨h1.s0, h2.s0, h3.s0, fun m1 m2 m3 => ⟨fun h => ?_, ?_⟩⟩
  · have n1 : g1 ∣ N := ⟨A, by rw [h1.hn]; grind⟩
    have n2 : g2 ∣ g1 := ⟨C, by rw [h2.hn]; grind⟩
    have k1 : g1 ∣ v1 := ⟨u1, h1.hv⟩
    have k2 : g2 ∣ v2 := ⟨u2, h2.hv⟩
    have a3 : g2 ∣ v3 * m3 := by
      have x := Int.dvd_trans (Int.dvd_trans n2 n1) h
      have y : g2 ∣ v1 * m1 + v2 * m2 := Int.dvd_add (Int.dvd_mul_of_dvd_left (Int.dvd_trans n2 k1)) (Int.dvd_mul_of_dvd_left k2)
      exact (Int.dvd_iff_dvd_of_dvd_add x).mp y
    obtain ⟨z, hz⟩ := cop_dvd (by have := h3.g0; omega) h3.hn h3.hv h3.co a3
    have b2 : N ∣ v1 * (m1 - z * D) + v2 * (m2 - z * E) := by
      have x : v1 * m1 + v2 * m2 + v3 * m3 = (v1 * (m1 - z * D) + v2 * (m2 - z * E)) + (v1 * D + (v2 * E + v3 * F)) * z := by rw [hz]; grind
      rw [x] at h
      exact (Int.dvd_iff_dvd_of_dvd_add h).mpr (Int.dvd_mul_of_dvd_left hD)
    have a2 : g1 ∣ v2 * (m2 - z * E) := (Int.dvd_iff_dvd_of_dvd_add (Int.dvd_trans n1 b2)).mp (Int.dvd_mul_of_dvd_left k1)
    obtain ⟨y, hy⟩ := cop_dvd (by have := h2.g0; omega) h2.hn h2.hv h2.co a2
    have a1 : N ∣ v1 * (m1 - z * D - y * B) := by
      have x : v1 * (m1 - z * D) + v2 * (m2 - z * E) = v1 * (m1 - z * D - y * B) + (v1 * B + v2 * C) * y := by rw [hy]; grind
      rw [x] at b2
      exact (Int.dvd_iff_dvd_of_dvd_add b2).mpr (Int.dvd_mul_of_dvd_left hB)
    obtain ⟨x, hx⟩ := cop_dvd (by have := h1.g0; omega) h1.hn h1.hv h1.co a1
    exact ⟨x, y, z, by rw [Int.mul_comm x A]; omega, by rw [Int.mul_comm y C]; omega, by rw [hz, Int.mul_comm]⟩
  · rintro ⟨x, y, z, e1, e2, e3⟩
    have e : v1 * m1 + v2 * m2 + v3 * m3 = v1 * A * x + (v1 * B + v2 * C) * y + (v1 * D + (v2 * E + v3 * F)) * z := by rw [e1, e2, e3]; grind
    rw [e]
    have d1 : N ∣ v1 * A := ⟨u1, by rw [h1.hv, h1.hn]; grind⟩
    exact Int.dvd_add (Int.dvd_add (Int.dvd_mul_of_dvd_left d1) (Int.dvd_mul_of_dvd_left hB)) (Int.dvd_mul_of_dvd_left hD)
theorem sol_of {M n w g s u i : Int} (h : Gcs M n g s u) (hw : g ∣ w) (hi : s ∣ u * i - 1) : M ∣ n * (w / g * i % s) - w := by
  obtain ⟨k, hk⟩ := hw
  have g0 := h.g0
  have ek : w / g = k := by rw [hk]; exact Int.mul_ediv_cancel_left _ (by omega)
  rw [ek]
  have em : k * i % s = k * i - s * (k * i / s) := by have := Int.mul_ediv_add_emod (k * i) s; omega
  obtain ⟨t, ht⟩ := hi
  refine ⟨k * t - u * (k * i / s), ?_⟩
  rw [em, h.hn, h.hv, hk]
  have e : g * u * (k * i - s * (k * i / s)) - g * k = g * (k * (u * i - 1)) - g * u * s * (k * i / s) := by grind
  rw [e, ht]; grind
end D
end

section
set_option Elab.async false
set_option linter.all false
set_option maxRecDepth 100000
set_option maxHeartbeats 4000000
set_option exponentiation.threshold 200000
namespace D
open PySem L2 K0 Num
open PySem.W (Dat)
theorem gcd_emod' (m n : Int) : Nat.gcd m.natAbs (n % m).natAbs = Nat.gcd m.natAbs n.natAbs := by
  have e := Int.gcd_add_mul_left_right m (n % m) (n / m)
  rw [Int.emod_add_mul_ediv] at e
  unfold Int.gcd at e
  exact e.symm
theorem bezout (a b : Nat) : ∃ x y : Int, (a : Int) * x + (b : Int) * y = (Nat.gcd a b : Nat) := by
  induction a, b using Nat.gcd.induction with
  | H0 n => exact ⟨0, 1, by simp⟩
  | H1 m n hm ih =>
    obtain ⟨x, y, h⟩ := ih
    refine ⟨y - (n / m : Nat) * x, x, ?_⟩
    rw [Nat.gcd_rec, ← h]
    have e : ((n % m : Nat) : Int) = (n : Int) - (m : Int) * ((n / m : Nat) : Int) := by
      have := Nat.mod_add_div n m
      omega
    rw [e]; grind
noncomputable def Inv1 (M n r : Int) : Prop := 0 ≤ r ∧ r < M ∧ M ∣ n * r - 1
theorem inv_of {M n p : Int} (hM : 0 < M) (h : M ∣ n * p - 1) : Inv1 M n (p % M) := by
  refine ⟨Int.emod_nonneg _ (by omega), Int.emod_lt_of_pos _ hM, ?_⟩
  have e : p % M = p - M * (p / M) := by have := Int.mul_ediv_add_emod p M; omega
  rw [e]
  have : n * (p - M * (p / M)) - 1 = (n * p - 1) - M * (n * (p / M)) := by grind
  rw [this]
  exact Int.dvd_sub h (Int.dvd_mul_right _ _)
theorem inv_ex {M n : Int} (hM : 0 < M) (hc : Nat.gcd M.natAbs n.natAbs = 1) : ∃ r, Inv1 M n r := by
  obtain ⟨x, y, h⟩ := bezout M.natAbs n.natAbs
  rw [hc] at h
  rcases (by omega : 0 ≤ n ∨ n < 0) with z | z
  · refine ⟨_, inv_of (p := y) hM ⟨-x, ?_⟩⟩
    rw [show ((n.natAbs : Nat) : Int) = n by omega, show ((M.natAbs : Nat) : Int) = M by omega] at h
    have : M * -x = -(M * x) := by grind
    omega
  · refine ⟨_, inv_of (p := -y) hM ⟨-x, ?_⟩⟩
    rw [show ((n.natAbs : Nat) : Int) = -n by omega, show ((M.natAbs : Nat) : Int) = M by omega] at h
    have : M * -x = -(M * x) := by grind
    have : n * -y = -n * y := by grind
    omega
theorem inv_one {M n r r' : Int} (hM : 0 < M) (hc : Nat.gcd M.natAbs n.natAbs = 1) (h : Inv1 M n r) (h' : Inv1 M n r') : r = r' := by
  obtain ⟨a0, a1, a2⟩ := h
  obtain ⟨b0, b1, b2⟩ := h'
  have d : M ∣ n * (r - r') := by
    have : n * (r - r') = (n * r - 1) - (n * r' - 1) := by grind
    rw [this]; exact Int.dvd_sub a2 b2
  have d2 : M ∣ r - r' := cop_dvd (g := M) (v := n) (s := M) (t := 1) (u := n) (by decide) (by omega) (by omega) hc d
  obtain ⟨k, hk⟩ := d2
  obtain ⟨_, e⟩ := res_eq hM a0 a1 b0 b1 (q := k) (by rw [Int.mul_comm k M]; omega)
  exact e
noncomputable def RInv : List Dat → Dat → Prop := fun ds d => ∃ n M r : Int, ds = [.int n, .int M] ∧ 0 < M ∧ Bt M 300 ∧ Nat.gcd M.natAbs n.natAbs = 1 ∧ Inv1 M n r ∧ d = .int r
theorem inv_abs {p q k : Int} (hs : p * q ≤ 0) (hk : 0 ≤ k) : ((p - k * q).natAbs : Int) = p.natAbs + k * q.natAbs := by
  rcases (by omega : q = 0 ∨ 0 < q ∨ q < 0) with z | z | z
  · subst z; simp
  · have p0 : p ≤ 0 := by
      rcases (by omega : p ≤ 0 ∨ 0 < p) with y | y
      · exact y
      · have := Int.mul_pos y z; omega
    have kq := Int.mul_nonneg hk (show 0 ≤ q by omega)
    rw [show ((q.natAbs : Nat) : Int) = q by omega]
    omega
  · have p0 : 0 ≤ p := by
      rcases (by omega : 0 ≤ p ∨ p < 0) with y | y
      · exact y
      · have := Int.mul_pos_of_neg_of_neg y z; omega
    have kq : k * q ≤ 0 := by
      have := Int.mul_nonneg hk (show 0 ≤ -q by omega)
      have e : k * -q = -(k * q) := by grind
      omega
    rw [show ((q.natAbs : Nat) : Int) = -q by omega]
    have e : k * -q = -(k * q) := by grind
    omega
structure InvI (M n l r p q : Int) : Prop where
  l0 : 0 < l
  r0 : 0 ≤ r
  lM : l ≤ M
  rM : r ≤ M
  sm : l * (q.natAbs : Int) + r * (p.natAbs : Int) = M
  sg : p * q ≤ 0
  dp : M ∣ n * p - l
  dq : M ∣ n * q - r
  co : Nat.gcd l.natAbs r.natAbs = 1
theorem InvI.start {M n : Int} (hM : 0 < M) (hc : Nat.gcd M.natAbs n.natAbs = 1) : InvI M n M (n % M) 0 1 := by
  have h0 := Int.emod_nonneg n (show M ≠ 0 by omega)
  have h1 := Int.emod_lt_of_pos n hM
  refine ⟨hM, h0, Int.le_refl _, by omega, by simp, by decide, ⟨-1, by omega⟩, ⟨n / M, by have := Int.mul_ediv_add_emod n M; omega⟩, ?_⟩
  rw [← hc]
  exact gcd_emod' M n
theorem InvI.next {M n l r p q : Int} (h : InvI M n l r p q) (hr : 0 < r) : InvI M n r (l - l / r * r) q (p - l / r * q) ∧ (l - l / r * r).toNat < r.toNat := by
  obtain ⟨l0, r0, lM, rM, sm, sg, dp, dq, co⟩ := h
  have em : l - l / r * r = l % r := by have := Int.mul_ediv_add_emod l r; rw [Int.mul_comm] at this; omega
  have h0 := Int.emod_nonneg l (show r ≠ 0 by omega)
  have h1 := Int.emod_lt_of_pos l hr
  have k0 : 0 ≤ l / r := Int.ediv_nonneg (by omega) (by omega)
  have ab := inv_abs sg k0
  refine ⟨⟨hr, by omega, rM, by omega, ?_, ?_, dq, ?_, ?_⟩, by omega⟩
  · rw [ab]
    have : r * ((p.natAbs : Int) + l / r * (q.natAbs : Int)) + (l - l / r * r) * (q.natAbs : Int) = l * (q.natAbs : Int) + r * (p.natAbs : Int) := by grind
    rw [this]; exact sm
  · have : q * (p - l / r * q) = p * q - l / r * (q * q) := by grind
    rw [this]
    have := Int.mul_nonneg k0 (sq_nn q)
    omega
  · have : n * (p - l / r * q) - (l - l / r * r) = (n * p - l) - (n * q - r) * (l / r) := by grind
    rw [this]
    exact Int.dvd_sub dp (Int.dvd_mul_of_dvd_left dq)
  · rw [em, ← co]
    rw [gcd_emod' r l, Nat.gcd_comm]
theorem InvI.bd {M n l r p q : Int} (h : InvI M n l r p q) (hr : 0 < r) {k : Nat} (hM : Bt M k) : Bt l k ∧ Bt r k ∧ Bt p k ∧ Bt q k := by
  obtain ⟨l0, r0, lM, rM, sm, sg, dp, dq, co⟩ := h
  have q1 : (q.natAbs : Int) ≤ l * (q.natAbs : Int) := by
    have := Int.mul_le_mul_of_nonneg_right (show (1 : Int) ≤ l by omega) (show (0 : Int) ≤ (q.natAbs : Int) by omega)
    omega
  have p1 : (p.natAbs : Int) ≤ r * (p.natAbs : Int) := by
    have := Int.mul_le_mul_of_nonneg_right (show (1 : Int) ≤ r by omega) (show (0 : Int) ≤ (p.natAbs : Int) by omega)
    omega
  have lq : 0 ≤ l * (q.natAbs : Int) := Int.mul_nonneg (by omega) (by omega)
  have rp : 0 ≤ r * (p.natAbs : Int) := Int.mul_nonneg (by omega) (by omega)
  unfold Bt at *
  refine ⟨?_, ?_, ?_, ?_⟩ <;> omega
theorem InvI.end {M n l p q : Int} (h : InvI M n l 0 p q) : M ∣ n * p - 1 := by
  have co := h.co
  have l0 := h.l0
  have : l = 1 := by
    rw [show (0 : Int).natAbs = 0 from rfl, Nat.gcd_zero_right] at co
    omega
  have d := h.dp
  rw [this] at d
  exact d
noncomputable def RSolved : List Dat → Dat → Prop := fun ds d => ∃ n w M g s u i : Int, ds = [.int n, .int w, .int M] ∧ 0 < M ∧ Bt M 300 ∧ Bt w 1000 ∧ g = gcdN [M, n] ∧ s = M / g ∧ u = n / g ∧ Inv1 s u i ∧ d = .int (w / g * i % s)
end D
end

section
set_option Elab.async false
set_option linter.all false
set_option maxRecDepth 100000
set_option maxHeartbeats 4000000
set_option exponentiation.threshold 200000
namespace D
open PySem L2 K0 Num
open PySem.W (Dat)
structure DivR (N v1 v2 v3 g1 g2 g3 u1 u2 u3 i1 i2 A B C D E F : Int) : Prop where
  hg1 : g1 = gcdN [N, v1]
  hA : A = N / g1
  hu1 : u1 = v1 / g1
  hg2 : g2 = gcdN [g1, v2]
  hC : C = g1 / g2
  hu2 : u2 = v2 / g2
  hg3 : g3 = gcdN [g2, v3]
  hF : F = g2 / g3
  hu3 : u3 = v3 / g3
  hi1 : Inv1 A u1 i1
  hi2 : Inv1 C u2 i2
  hB : B = -v2 * C / g1 * i1 % A
  hE : E = -v3 * F / g2 * i2 % C
  hD : D = (-v2 * E - v3 * F) / g1 * i1 % A
section
variable {N v1 v2 v3 g1 g2 g3 u1 u2 u3 i1 i2 A B C D E F : Int}
theorem DivR.gcs (h : DivR N v1 v2 v3 g1 g2 g3 u1 u2 u3 i1 i2 A B C D E F) (hN : 0 < N) : Gcs N v1 g1 A u1 ∧ Gcs g1 v2 g2 C u2 ∧ Gcs g2 v3 g3 F u3 := by
  obtain ⟨h1, h2, h3, h4, h5, h6, h7, h8, h9, _⟩ := h
  have c1 := gc_of (v := v1) hN
  rw [← h1, ← h2, ← h3] at c1
  have c2 := gc_of (v := v2) c1.g0
  rw [← h4, ← h5, ← h6] at c2
  have c3 := gc_of (v := v3) c2.g0
  rw [← h7, ← h8, ← h9] at c3
  exact ⟨c1, c2, c3⟩
theorem DivR.facts (h : DivR N v1 v2 v3 g1 g2 g3 u1 u2 u3 i1 i2 A B C D E F) (hN : 0 < N) : (g1 ∣ -v2 * C) ∧ (g2 ∣ -v3 * F) ∧ (g1 ∣ -v2 * E - v3 * F) ∧ Dr N v1 v2 v3 A B C D E F := by
  obtain ⟨c1, c2, c3⟩ := h.gcs hN
  have k1 : g1 ∣ -v2 * C := ⟨-u2, by rw [c2.hv, c2.hn]; grind⟩
  have k2 : g2 ∣ -v3 * F := ⟨-u3, by rw [c3.hv, c3.hn]; grind⟩
  have sB := sol_of c1 k1 h.hi1.2.2
  rw [← h.hB] at sB
  have sE := sol_of c2 k2 h.hi2.2.2
  rw [← h.hE] at sE
  have k3 : g1 ∣ -v2 * E - v3 * F := by
    have : -v2 * E - v3 * F = -(v2 * E - -v3 * F) := by grind
    rw [this]; exact (Int.dvd_neg).mpr sE
  have sD := sol_of c1 k3 h.hi1.2.2
  rw [← h.hD] at sD
  refine ⟨k1, k2, k3, dr_of c1 c2 c3 ?_ ?_ ?_⟩
  · have : v1 * B + v2 * C = v1 * B - -v2 * C := by grind
    rw [this]; exact sB
  · have : v2 * E + v3 * F = v2 * E - -v3 * F := by grind
    rw [this]; exact sE
  · have : v1 * D + (v2 * E + v3 * F) = v1 * D - (-v2 * E - v3 * F) := by grind
    rw [this]; exact sD
theorem DivR.ex (hN : 0 < N) (v1 v2 v3 : Int) : ∃ g1 g2 g3 u1 u2 u3 i1 i2 A B C D E F : Int, DivR N v1 v2 v3 g1 g2 g3 u1 u2 u3 i1 i2 A B C D E F := by
  have c1 := gc_of (v := v1) hN
  have c2 := gc_of (v := v2) c1.g0
  obtain ⟨i1, h1⟩ := inv_ex c1.s0 c1.co
  obtain ⟨i2, h2⟩ := inv_ex c2.s0 c2.co
  exact ⟨_, _, _, _, _, _, i1, i2, _, _, _, _, _, _, rfl, rfl, rfl, rfl, rfl, rfl, rfl, rfl, rfl, h1, h2, rfl, rfl, rfl⟩
theorem DivR.le (h : DivR N v1 v2 v3 g1 g2 g3 u1 u2 u3 i1 i2 A B C D E F) (hN : 0 < N) : g1 ≤ N ∧ g2 ≤ N ∧ A ≤ N ∧ C ≤ N ∧ F ≤ N ∧ 0 ≤ B ∧ B ≤ N ∧ 0 ≤ D ∧ D ≤ N ∧ 0 ≤ E ∧ E ≤ N := by
  obtain ⟨c1, c2, c3⟩ := h.gcs hN
  have x1 : g1 ≤ N := Int.le_of_dvd hN ⟨A, by rw [c1.hn, Int.mul_comm]⟩
  have x2 : g2 ≤ g1 := Int.le_of_dvd c1.g0 ⟨C, by rw [c2.hn, Int.mul_comm]⟩
  have x3 : A ≤ N := Int.le_of_dvd hN ⟨g1, by rw [c1.hn]⟩
  have x4 : C ≤ g1 := Int.le_of_dvd c1.g0 ⟨g2, by rw [c2.hn]⟩
  have x5 : F ≤ g2 := Int.le_of_dvd c2.g0 ⟨g3, by rw [c3.hn]⟩
  have a0 := c1.s0
  have c0 := c2.s0
  have b0 : 0 ≤ B ∧ B < A := by rw [h.hB]; exact ⟨Int.emod_nonneg _ (by omega), Int.emod_lt_of_pos _ a0⟩
  have d0 : 0 ≤ D ∧ D < A := by rw [h.hD]; exact ⟨Int.emod_nonneg _ (by omega), Int.emod_lt_of_pos _ a0⟩
  have e0 : 0 ≤ E ∧ E < C := by rw [h.hE]; exact ⟨Int.emod_nonneg _ (by omega), Int.emod_lt_of_pos _ c0⟩
  omega
end
noncomputable def r3D (a b c d e f : Int) : Dat := .tuple [tI [a, 0, 0], tI [b, c, 0], tI [d, e, f]]
noncomputable def RDivR : List Dat → Dat → Prop := fun ds d => ∃ N v1 v2 v3 g1 g2 g3 u1 u2 u3 i1 i2 A B C D E F : Int, ds = [.list [.int v1, .int v2, .int v3], .int N] ∧ 0 < N ∧ Bt N 300 ∧ Bt v1 300 ∧ Bt v2 300 ∧ Bt v3 300 ∧ DivR N v1 v2 v3 g1 g2 g3 u1 u2 u3 i1 i2 A B C D E F ∧ d = r3D A B C D E F
noncomputable def RSopL : List Dat → Dat → Prop := fun ds d => ∃ a b c x y z : Int, ds = [tI [a, b, c], .list [.int x, .int y, .int z]] ∧ Bt a 300 ∧ Bt b 300 ∧ Bt c 300 ∧ Bt x 8000 ∧ Bt y 8000 ∧ Bt z 8000 ∧ d = .int (sop [a, b, c] [x, y, z])
noncomputable def RSummed : List Dat → Dat → Prop := fun ds d => ∃ m1 m2 m3 a b c d' e f : Int, ds = [tI [m1, m2, m3], r3D a b c d' e f] ∧ Bt m1 300 ∧ Bt m2 300 ∧ Bt m3 300 ∧ Bt a 8000 ∧ Bt b 8000 ∧ Bt c 8000 ∧ Bt d' 8000 ∧ Bt e 8000 ∧ Bt f 8000 ∧ d = tI [sop [m1, m2, m3] [a, b, d'], sop [m1, m2, m3] [0, c, e], sop [m1, m2, m3] [0, 0, f]]
noncomputable def tidD (a b c d e f : Int) : Dat := r3D a (b % a) c ((d - e / c * (b % a)) % a) (e - e / c * c) f
noncomputable def RTidy : List Dat → Dat → Prop := fun ds d' => ∃ a b c d e f : Int, ds = [.list [tI [a, 0, 0], tI [b, c, 0], tI [d, e, f]]] ∧ 0 < a ∧ 0 < c ∧ Bt a 8400 ∧ Bt c 8400 ∧ Bt e 8400 ∧ d' = tidD a b c d e f
theorem tid_hnf {a b c d e f : Int} (ha : 0 < a) (hc : 0 < c) (hf : 0 < f) : Hnf a (b % a) c ((d - e / c * (b % a)) % a) (e - e / c * c) f ∧ ∀ x y z, In a b c d e f x y z ↔ In a (b % a) c ((d - e / c * (b % a)) % a) (e - e / c * c) f x y z := by
  have e1 : e - e / c * c = e % c := by have := Int.mul_ediv_add_emod e c; rw [Int.mul_comm] at this; omega
  have eb : b % a = b - b / a * a := by have := Int.mul_ediv_add_emod b a; rw [Int.mul_comm] at this; omega
  have ed : (d - e / c * (b % a)) % a = d - e / c * (b % a) - (d - e / c * (b % a)) / a * a := by have := Int.mul_ediv_add_emod (d - e / c * (b % a)) a; rw [Int.mul_comm] at this; omega
  refine ⟨⟨ha, hc, hf, Int.emod_nonneg _ (by omega), Int.emod_lt_of_pos _ ha, Int.emod_nonneg _ (by omega), Int.emod_lt_of_pos _ ha, by rw [e1]; exact Int.emod_nonneg _ (by omega), by rw [e1]; exact Int.emod_lt_of_pos _ hc⟩, fun x y z => ?_⟩
  rw [ed, eb]
  exact In.tidy x y z
theorem hnf_step {a b c d e f N v1 v2 v3 g1 g2 g3 u1 u2 u3 i1 i2 A B C D E F l1 l2 l3 : Int} (h : Hnf a b c d e f) (hN : 0 < N) (hd : DivR N v1 v2 v3 g1 g2 g3 u1 u2 u3 i1 i2 A B C D E F) (h1 : v1 = (l1 * a) % N) (h2 : v2 = (l1 * b + l2 * c) % N) (h3 : v3 = (l1 * d + l2 * e + l3 * f) % N) :
    0 < A * a ∧ 0 < C * c ∧ 0 < F * f ∧ ∀ x y z, In (A * a) (B * a + C * b) (C * c) (D * a + E * b + F * d) (E * c + F * e) (F * f) x y z ↔ In a b c d e f x y z ∧ N ∣ l1 * x + l2 * y + l3 * z := by
  obtain ⟨_, _, _, hdr⟩ := hd.facts hN
  have md : ∀ t : Int, N ∣ t - t % N := fun t => Int.dvd_self_sub_emod
  refine ⟨Int.mul_pos hdr.1 h.a0, Int.mul_pos hdr.2.1 h.c0, Int.mul_pos hdr.2.2.1 h.f0, In.step hdr ?_ ?_ ?_⟩
  · rw [h1]; exact md _
  · rw [h2]; exact md _
  · rw [h3]; exact md _
end D
end

section
set_option Elab.async false
set_option linter.all false
set_option maxRecDepth 100000
set_option maxHeartbeats 4000000
set_option exponentiation.threshold 200000
namespace L2
open PySem PySem.Spec PyProof.Rows
noncomputable def TupTT (K : PySem.W.Frag) (d : Addr) (rows : List (List Int)) : Prop := ∃ o its n a1 a2 a3 r1 r2 r3, K.lookup d = some o ∧ o.cls = .type "tuple" ∧ o.data = .seq its n ∧ its = #[.ref a1, .ref a2, .ref a3] ∧ rows = [r1, r2, r3] ∧ TupT K a1 r1 ∧ TupT K a2 r2 ∧ TupT K a3 r3
noncomputable def TupTTAt (K : PySem.W.Frag) (x : Str) (rows : List (List Int)) : Prop := ∃ d, PySem.W.nsIn K mainGlobals x = some (some (.ref d)) ∧ TupTT K d rows
theorem TupTTAt.get {K : PySem.W.Frag} {x : Str} {rows : List (List Int)} {h : Heap} {mg : Str → Option Value} (t : TupTTAt K x rows) (Y : K.In h) (G : h.Ns mainGlobals mg) : ∃ d, mg x = some (.ref d) ∧ TupTT K d rows := by
  obtain ⟨d, a, t⟩ := t
  exact ⟨d, PySem.W.mg_of Y G a, t⟩
theorem TupT.three {K : PySem.W.Frag} {d : Addr} {o : Obj} {p q r : Int} {t1 t2 t3 : _} {n : Nat} (l : K.lookup d = some o) (c : o.cls = .type "tuple") (e : o.data = .seq #[.int p t1, .int q t2, .int r t3] n) : TupT K d [p, q, r] :=
  ⟨o, _, n, l, c, e, (show 3 ≤ sizeLine by decide), .cons ⟨_, rfl⟩ (.cons ⟨_, rfl⟩ (.cons ⟨_, rfl⟩ .nil))⟩
theorem TupTTAt.three {K : PySem.W.Frag} {x : Str} {d a1 a2 a3 : Addr} {o : Obj} {r1 r2 r3 : List Int} {n : Nat} (a : PySem.W.nsIn K mainGlobals x = some (some (.ref d))) (l : K.lookup d = some o) (c : o.cls = .type "tuple") (e : o.data = .seq #[.ref a1, .ref a2, .ref a3] n) (h1 : TupT K a1 r1) (h2 : TupT K a2 r2) (h3 : TupT K a3 r3) : TupTTAt K x [r1, r2, r3] :=
  ⟨d, a, o, _, n, a1, a2, a3, r1, r2, r3, l, c, e, rfl, rfl, h1, h2, h3⟩
end L2
namespace D
open PySem L2 K0 Num
open PySem.W (Dat)
noncomputable def units : List (List Int) := [[1, 0, 0], [0, 1, 0], [0, 0, 1]]
theorem E1.gTT {p : Option Addr} {K : PySem.W.Frag} {τ : List Sl} {d : Addr} {rows : List (List Int)} (h : TupTT K d rows) : E1 p K (tC (.ref d)) τ (.dat (.tuple (rows.map tI))) := fun W L σ H Q rs o k => by
  obtain ⟨ob, its, n, a1, a2, a3, r1, r2, r3, h1, h2, h3, h4, h5, t1, t2, t3⟩ := h
  subst h4 h5
  have one : ∀ {a : Addr} {r : List Int}, TupT K a r → Dz (fun a => ¬ W a) K H (.ref a) (tI r) := fun t => by
    obtain ⟨ob, its, n, h1, h2, h3, h4, h5⟩ := t
    exact .tup (.inr ⟨ob, its, n, h1, h2, h3, h4, h5⟩) (Dzs.ints _)
  exact k _ H _ rfl Ev.refl o (.tup (xs := [.ref a1, .ref a2, .ref a3]) (.inr ⟨ob, _, n, h1, h2, h3, (show 3 ≤ sizeLine by decide), .cons rfl (.cons rfl (.cons rfl .nil))⟩) (.cons (one t1) (.cons (one t2) (.cons (one t3) .nil))))
noncomputable def Kpt (F : List Int) (x y z : Int) : Prop := ∀ a b c e : Int, pl F = [a, b, c, e] → (sop (pl F) (pl F) ∣ sop (rw1 a b c e) [x, y, z]) ∧ (sop (pl F) (pl F) ∣ sop (rw2 a b c e) [x, y, z]) ∧ (sop (pl F) (pl F) ∣ sop (rw3 a b c e) [x, y, z])
noncomputable def KptA (fs : List (List Int)) (x y z : Int) : Prop := ∀ F ∈ fs, Kpt F x y z
noncomputable def FourL (m : Nat) (fs : List (List Int)) : Prop := ∀ F ∈ fs, F.length = 4 ∧ (∃ n ∈ F, n ≠ 0) ∧ Bd (2 ^ m) F
noncomputable def Rows (fs : List (List Int)) (a b c d e f : Int) : Prop := Hnf a b c d e f ∧ ∀ x y z, In a b c d e f x y z ↔ KptA fs x y z
theorem Rows.one {fs gs : List (List Int)} {a b c d e f a' b' c' d' e' f' : Int} (h : Rows fs a b c d e f) (h' : Rows gs a' b' c' d' e' f') (hk : ∀ x y z, KptA fs x y z ↔ KptA gs x y z) : r3D a b c d e f = r3D a' b' c' d' e' f' := by
  obtain ⟨q1, q2, q3, q4, q5, q6⟩ := h.1.one h'.1 fun x y z => (h.2 x y z).trans ((hk x y z).trans (h'.2 x y z).symm)
  rw [q1, q2, q3, q4, q5, q6]
theorem kpt_app {fs : List (List Int)} {F : List Int} {x y z : Int} : KptA (fs ++ [F]) x y z ↔ KptA fs x y z ∧ Kpt F x y z := by
  unfold KptA
  constructor
  · exact fun h => ⟨fun G hG => h G (List.mem_append_left _ hG), h F (by simp)⟩
  · rintro ⟨h1, h2⟩ G hG
    rcases List.mem_append.mp hG with hG | hG
    · exact h1 G hG
    · rw [List.mem_singleton.mp hG]; exact h2
theorem pl_size {F : List Int} (l : F.length = 4) (nz : ∃ n ∈ F, n ≠ 0) : ∃ a b c e : Int, pl F = [a, b, c, e] ∧ 0 < sop [a, b, c, e] [a, b, c, e] := by
  obtain ⟨a, b, c, e, ep⟩ := four_of (show (pl F).length = 4 by rw [pl_length]; exact l)
  have np := nz_pl nz
  rw [ep] at np
  exact ⟨a, b, c, e, ep, by rw [sop_n4]; exact n4_pos np⟩
theorem kpt_is {F : List Int} {a b c e : Int} (ep : pl F = [a, b, c, e]) (x y z : Int) : Kpt F x y z ↔ (sop [a, b, c, e] [a, b, c, e] ∣ sop (rw1 a b c e) [x, y, z]) ∧ (sop [a, b, c, e] [a, b, c, e] ∣ sop (rw2 a b c e) [x, y, z]) ∧ (sop [a, b, c, e] [a, b, c, e] ∣ sop (rw3 a b c e) [x, y, z]) := by
  unfold Kpt
  rw [ep]
  constructor
  · exact fun h => h a b c e rfl
  · intro h a' b' c' e' eq
    cases eq
    exact h
noncomputable def RKeptR : List Dat → Dat → Prop := fun ds d' => ∃ (fs : List (List Int)) (a b c d e f : Int), ds = [.list (fs.map tI)] ∧ FourL 97 fs ∧ fs.length ≤ 5 ∧ Rows fs a b c d e f ∧ d' = r3D a b c d e f
end D
end

section
set_option Elab.async false
set_option linter.all false
set_option maxRecDepth 100000
set_option maxHeartbeats 4000000
set_option exponentiation.threshold 200000
namespace D
open PySem L2 K0 Num
open PySem.W (Dat)
theorem E1.cWT {p : Option Addr} {K : PySem.W.Frag} {τ : List Sl} {tas : TA} {E' : XK} {a b c d : Int} (ha : A1 p K tas τ [.dat (tI [a, b, c, d])]) (bd : Bd (2 ^ 1000) [a, b, c, d]) : E1 p K (tCall (spWT K) [] E' tas) τ (.dat (.tuple [tI (rw1 a b c d), tI (rw2 a b c d), tI (rw3 a b c d)])) :=
  E.c1 ha fun W H x Q z q => ⟨x, a, b, c, d, rfl, z, bd, fun r H' s h => q _ H' _ rfl s fun W => by
    obtain ⟨r1, r2, r3, h0, h1, h2, h3⟩ := h
    exact .tup (xs := [.ref r1, .ref r2, .ref r3]) (.inl (.inl h0)) (.cons (told h1) (.cons (told h2) (.cons (told h3) .nil)))⟩
structure KSt (P : Int → Int → Int → Prop) (B : Nat) (a b c d e f : Int) : Prop where
  h : Hnf a b c d e f
  i : ∀ x y z, In a b c d e f x y z ↔ P x y z
  ba : Bt a B
  bc : Bt c B
  bf : Bt f B
theorem KSt.all {P : Int → Int → Int → Prop} {B : Nat} {a b c d e f : Int} (k : KSt P B a b c d e f) : Bt a B ∧ Bt b B ∧ Bt c B ∧ Bt d B ∧ Bt e B ∧ Bt f B := by
  obtain ⟨⟨a0, c0, f0, b0, b1, d0, d1, e0, e1⟩, _, ba, bc, bf⟩ := k
  unfold Bt at *
  refine ⟨ba, ?_, bc, ?_, ?_, bf⟩ <;> omega
theorem KSt.line {P : Int → Int → Int → Prop} {B : Nat} {a b c d e f N v1 v2 v3 g1 g2 g3 u1 u2 u3 i1 i2 A B' C D E F l1 l2 l3 : Int} (k : KSt P B a b c d e f) (hN : 0 < N) (bN : Bt N 200) (hd : DivR N v1 v2 v3 g1 g2 g3 u1 u2 u3 i1 i2 A B' C D E F) (h1 : v1 = (l1 * a) % N) (h2 : v2 = (l1 * b + l2 * c) % N) (h3 : v3 = (l1 * d + l2 * e + l3 * f) % N) :
    0 < A * a ∧ 0 < C * c ∧ Bt (A * a) (200 + B) ∧ Bt (C * c) (200 + B) ∧ ∃ a' b' c' d' e' f' : Int, tidD (A * a) (B' * a + C * b) (C * c) (D * a + E * b + F * d) (E * c + F * e) (F * f) = r3D a' b' c' d' e' f' ∧ KSt (fun x y z => P x y z ∧ N ∣ l1 * x + l2 * y + l3 * z) (200 + B) a' b' c' d' e' f' := by
  obtain ⟨hh, hi, ba, bc, bf⟩ := k
  obtain ⟨p1, p2, p3, hs⟩ := hnf_step hh hN hd h1 h2 h3
  obtain ⟨x1, x2, x3, x4, x5, _⟩ := hd.le hN
  obtain ⟨c1, c2, c3⟩ := hd.gcs hN
  have up : ∀ {t : Int}, 0 < t → t ≤ N → Bt t 200 := fun h1 h2 => by unfold Bt at *; omega
  have q1 := (up c1.s0 x3).mul ba
  have q2 := (up c2.s0 x4).mul bc
  have q3 := (up c3.s0 x5).mul bf
  obtain ⟨ht, hj⟩ := tid_hnf (b := B' * a + C * b) (d := D * a + E * b + F * d) (e := E * c + F * e) p1 p2 p3
  exact ⟨p1, p2, q1, q2, _, _, _, _, _, _, rfl, ht, fun x y z => by rw [← hj, hs, hi], q1, q2, q3⟩
end D
end

section
set_option Elab.async false
set_option linter.all false
set_option maxRecDepth 100000
set_option maxHeartbeats 4000000
set_option exponentiation.threshold 200000
namespace D
open PySem L2 K0 Num
open PySem.W (Dat)
noncomputable def KL (P : Int → Int → Int → Prop) (N : Int) (Ls : List (List Int)) (j : Nat) (x y z : Int) : Prop := P x y z ∧ ∀ L ∈ Ls.take j, N ∣ sop L [x, y, z]
theorem take_mem {α : Type} {l : List α} {j : Nat} {x : α} (h : l[j]? = some x) (y : α) : y ∈ l.take (j + 1) ↔ y ∈ l.take j ∨ y = x := by
  rw [List.take_add_one, h, Option.toList_some, List.mem_append, List.mem_singleton]
theorem KL.step {P : Int → Int → Int → Prop} {N : Int} {Ls : List (List Int)} {j : Nat} {l1 l2 l3 : Int} (h : Ls[j]? = some [l1, l2, l3]) (x y z : Int) : KL P N Ls (j + 1) x y z ↔ KL P N Ls j x y z ∧ N ∣ l1 * x + l2 * y + l3 * z := by
  unfold KL
  constructor
  · rintro ⟨h1, h2⟩
    refine ⟨⟨h1, fun L hL => h2 L ((take_mem h L).mpr (.inl hL))⟩, ?_⟩
    have := h2 _ ((take_mem h _).mpr (.inr rfl))
    rwa [sop33] at this
  · rintro ⟨⟨h1, h2⟩, h3⟩
    refine ⟨h1, fun L hL => ?_⟩
    rcases (take_mem h L).mp hL with hL | rfl
    · exact h2 L hL
    · rw [sop33]; exact h3
theorem KSt.to {P Q : Int → Int → Int → Prop} {B B2 : Nat} {a b c d e f : Int} (k : KSt P B a b c d e f) (h : ∀ x y z, P x y z ↔ Q x y z) (hb : B ≤ B2) : KSt Q B2 a b c d e f :=
  ⟨k.h, fun x y z => (k.i x y z).trans (h x y z), k.ba.up hb, k.bc.up hb, k.bf.up hb⟩
theorem KSt.start : KSt (KptA []) 1 1 0 1 0 0 1 :=
  ⟨⟨by decide, by decide, by decide, by decide, by decide, by decide, by decide, by decide, by decide⟩, fun x y z => ⟨fun _ F hF => by simp at hF, fun _ => ⟨x, y, z, by omega, by omega, by omega⟩⟩, (show (1 : Nat) ≤ 2 ^ 1 by decide), (show (1 : Nat) ≤ 2 ^ 1 by decide), (show (1 : Nat) ≤ 2 ^ 1 by decide)⟩
theorem KSt.four {fs : List (List Int)} {k B : Nat} {F : List Int} {p q r s a b c d e f : Int} (hF : fs[k]? = some F) (ep : pl F = [p, q, r, s]) (h : KSt (KL (KptA (fs.take k)) (sop [p, q, r, s] [p, q, r, s]) [rw1 p q r s, rw2 p q r s, rw3 p q r s] 3) B a b c d e f) : KSt (KptA (fs.take (k + 1))) B a b c d e f :=
  h.to (fun x y z => by
    rw [List.take_add_one, hF, Option.toList_some, kpt_app, kpt_is ep]
    unfold KL
    constructor
    · rintro ⟨h1, h2⟩; exact ⟨h1, h2 _ (by simp), h2 _ (by simp), h2 _ (by simp)⟩
    · rintro ⟨h1, h2, h3, h4⟩
      refine ⟨h1, fun L hL => ?_⟩
      simp only [List.take_succ_cons, List.take_zero, List.mem_cons, List.mem_nil_iff, or_false] at hL
      rcases hL with rfl | rfl | rfl <;> assumption) (Nat.le_refl _)
theorem KSt.turn {P : Int → Int → Int → Prop} {B j : Nat} {a b c d e f N l1 l2 l3 : Int} {Ls : List (List Int)} (k : KSt (KL P N Ls j) B a b c d e f) (hB : B ≤ 4000) (hN : 0 < N) (bN : Bt N 200) (hL : Ls[j]? = some [l1, l2, l3]) :
    ∃ g1 g2 g3 u1 u2 u3 i1 i2 A B' C D E F : Int, DivR N (sop [l1, l2, l3] [a, 0, 0] % N) (sop [l1, l2, l3] [b, c, 0] % N) (sop [l1, l2, l3] [d, e, f] % N) g1 g2 g3 u1 u2 u3 i1 i2 A B' C D E F ∧
      (Bt A 300 ∧ Bt B' 300 ∧ Bt C 300 ∧ Bt D 300 ∧ Bt E 300 ∧ Bt F 300) ∧ 0 < A * a ∧ 0 < C * c ∧ Bt (A * a) 8400 ∧ Bt (C * c) 8400 ∧ Bt (E * c + F * e) 8400 ∧
      ∃ a' b' c' d' e' f' : Int, tidD (A * a) (B' * a + C * b) (C * c) (D * a + E * b + F * d) (E * c + F * e) (F * f) = r3D a' b' c' d' e' f' ∧ KSt (KL P N Ls (j + 1)) (B + 200) a' b' c' d' e' f' := by
  obtain ⟨g1, g2, g3, u1, u2, u3, i1, i2, A, B', C, D, E, F, hd⟩ := DivR.ex hN (sop [l1, l2, l3] [a, 0, 0] % N) (sop [l1, l2, l3] [b, c, 0] % N) (sop [l1, l2, l3] [d, e, f] % N)
  refine ⟨g1, g2, g3, u1, u2, u3, i1, i2, A, B', C, D, E, F, hd, ?_⟩
  obtain ⟨x1, x2, x3, x4, x5, y0, y1, y2, y3, y4, y5⟩ := hd.le hN
  obtain ⟨c1, c2, c3⟩ := hd.gcs hN
  obtain ⟨_, _, bc, _, be, _⟩ := k.all
  have up : ∀ {t : Int}, 0 ≤ t → t ≤ N → Bt t 300 := fun h1 h2 => Bt.up (x := 200) (by unfold Bt at *; omega) (by decide)
  have s1 := c1.s0
  have s2 := c2.s0
  have s3 := c3.s0
  have bE := up y4 y5
  have bF := up (Int.le_of_lt s3) x5
  obtain ⟨p1, p2, q1, q2, a', b', c', d', e', f', et, kk⟩ := k.line (l1 := l1) (l2 := l2) (l3 := l3) hN bN hd (by rw [sop33]; congr 1; omega) (by rw [sop33]; congr 1; omega) (by rw [sop33])
  refine ⟨⟨up (by omega) x3, up y0 y1, up (by omega) x4, up y2 y3, bE, bF⟩, p1, p2, q1.up (by omega), q2.up (by omega), (Bt.add' (bE.mul bc) (bF.mul be)).up (by omega), a', b', c', d', e', f', et, kk.to (fun x y z => (KL.step hL x y z).symm) (by omega)⟩
theorem r3_sums (A B C D E F a b c d e f : Int) : sop [A, 0, 0] [a, b, d] = A * a ∧ sop [A, 0, 0] [0, c, e] = 0 ∧ sop [A, 0, 0] [0, 0, f] = 0 ∧ sop [B, C, 0] [a, b, d] = B * a + C * b ∧ sop [B, C, 0] [0, c, e] = C * c ∧ sop [B, C, 0] [0, 0, f] = 0 ∧ sop [D, E, F] [a, b, d] = D * a + E * b + F * d ∧ sop [D, E, F] [0, c, e] = E * c + F * e ∧ sop [D, E, F] [0, 0, f] = F * f := by
  simp only [sop33]
  refine ⟨?_, ?_, ?_, ?_, ?_, ?_, ?_, ?_, ?_⟩ <;> simp
theorem KSt.smL {P : Int → Int → Int → Prop} {B : Nat} {a b c d e f : Int} (k : KSt P B a b c d e f) (hB : B ≤ 4000) : Sm [a, 0, 0] ∧ Sm [b, c, 0] ∧ Sm [d, e, f] := by
  obtain ⟨x1, x2, x3, x4, x5, x6⟩ := k.all
  have z : Bt 0 B := Nat.zero_le _
  refine ⟨sm_bd' (k := B) (bt_bd3 x1 z z) (by omega), sm_bd' (k := B) (bt_bd3 x2 x3 z) (by omega), sm_bd' (k := B) (bt_bd3 x4 x5 x6) (by omega)⟩
end D
end

section
set_option Elab.async false
set_option linter.all false
set_option maxRecDepth 100000
set_option maxHeartbeats 4000000
set_option exponentiation.threshold 200000
namespace D
open PySem L2 K0 Num
open PySem.W (Dat)
section
variable {a b c e x y z X Y Z : Int}
theorem l3_inj {p q r s t u : Int} (h : [p, q, r] = [s, t, u]) : p = s ∧ q = t ∧ r = u := by
  injection h with h1 h; injection h with h2 h; injection h with h3 _; exact ⟨h1, h2, h3⟩
end
theorem kst_ex : ∀ (fs : List (List Int)), FourL 97 fs → fs.length ≤ 5 → ∃ a b c d e f : Int, KSt (KptA fs) (600 * fs.length + 1) a b c d e f := by
  intro fs
  generalize hr : fs.reverse = rs
  have hf : fs = rs.reverse := by rw [← hr, List.reverse_reverse]
  clear hr
  subst hf
  induction rs with
  | nil => intro _ _; exact ⟨_, _, _, _, _, _, KSt.start⟩
  | cons F rs ih =>
    intro h h5
    rw [List.reverse_cons] at h h5 ⊢
    rw [List.length_append, List.length_singleton] at h5 ⊢
    obtain ⟨a, b, c, d, e, f, k0⟩ := ih (fun G hG => h G (List.mem_append_left _ hG)) (by omega)
    obtain ⟨lF, nF, bF⟩ := h F (by simp)
    obtain ⟨p, q, r, s, ep, hN⟩ := pl_size lF nF
    have bp : Bd (2 ^ 97) [p, q, r, s] := ep ▸ bd_pl nF bF
    have bN : Bt (sop [p, q, r, s] [p, q, r, s]) 200 := (bt_n4 bp).up (by decide)
    have k1 := k0.to (Q := KL (KptA rs.reverse) (sop [p, q, r, s] [p, q, r, s]) [rw1 p q r s, rw2 p q r s, rw3 p q r s] 0) (fun x y z => ⟨fun h => ⟨h, fun L hL => by simp at hL⟩, fun h => h.1⟩) (Nat.le_refl _)
    obtain ⟨_, _, _, _, _, _, _, _, _, _, _, _, _, _, _, _, _, _, _, _, _, _, _, _, _, _, _, _, k2⟩ := k1.turn (by omega) hN bN rfl
    obtain ⟨_, _, _, _, _, _, _, _, _, _, _, _, _, _, _, _, _, _, _, _, _, _, _, _, _, _, _, _, k3⟩ := k2.turn (by omega) hN bN rfl
    obtain ⟨_, _, _, _, _, _, _, _, _, _, _, _, _, _, _, _, _, _, _, _, _, _, _, _, _, _, _, _, k4⟩ := k3.turn (by omega) hN bN rfl
    refine ⟨_, _, _, _, _, _, k4.to (fun x y z => ?_) (by omega)⟩
    rw [kpt_app, kpt_is ep]
    unfold KL
    constructor
    · rintro ⟨h1, h2⟩; exact ⟨h1, h2 _ (by simp), h2 _ (by simp), h2 _ (by simp)⟩
    · rintro ⟨h1, h2, h3, h4⟩
      refine ⟨h1, fun L hL => ?_⟩
      simp only [List.take_succ_cons, List.take_zero, List.mem_cons, List.mem_nil_iff, or_false] at hL
      rcases hL with rfl | rfl | rfl <;> assumption
theorem KSt.rows {fs : List (List Int)} {B : Nat} {a b c d e f : Int} (k : KSt (KptA fs) B a b c d e f) : Rows fs a b c d e f := ⟨k.h, k.i⟩
section
variable {a b c e o0 o1 o2 o3 : Int}
end
end D
end

section
set_option Elab.async false
set_option linter.all false
set_option maxRecDepth 100000
set_option maxHeartbeats 4000000
set_option exponentiation.threshold 200000
namespace D
open PySem L2 K0 Num
open PySem.W (Dat)
theorem KSt.rowAt {P : Int → Int → Int → Prop} {B j : Nat} {a b c d e f : Int} (k : KSt P B a b c d e f) {dd : Dat} (hd : [tI [a, 0, 0], tI [b, c, 0], tI [d, e, f]][j]? = some dd) : ∃ x y z : Int, In a b c d e f x y z ∧ Bd (2 ^ B) [x, y, z] ∧ dd = tI [x, y, z] := by
  obtain ⟨x1, x2, x3, x4, x5, x6⟩ := k.all
  have zz : Bt 0 B := Nat.zero_le _
  match j, hd with
  | 0, hd => cases hd; exact ⟨a, 0, 0, ⟨1, 0, 0, by omega, by omega, by omega⟩, bt_bd3 x1 zz zz, rfl⟩
  | 1, hd => cases hd; exact ⟨b, c, 0, ⟨0, 1, 0, by omega, by omega, by omega⟩, bt_bd3 x2 x3 zz, rfl⟩
  | 2, hd => cases hd; exact ⟨d, e, f, ⟨0, 0, 1, by omega, by omega, by omega⟩, bt_bd3 x4 x5 x6, rfl⟩
  | j + 3, hd => cases hd
theorem le_1 {F : List Int} : [F].length ≤ 5 := (show 1 ≤ 5 by decide)
end D
end

section
set_option Elab.async false
set_option linter.all false
set_option maxRecDepth 100000
set_option maxHeartbeats 4000000
set_option exponentiation.threshold 200000
namespace L2
open PySem PySem.Spec PyProof.Rows
section
variable {X : Cx}
theorem call_min3 (hc : X.calm = true) : CallR X (.builtin "min") (fun xs H Q => ∃ i j k, xs = [.int i, .int j, .int k] ∧ Q (.int (if j < i then (if k < j then k else j) else (if k < i then k else i))) H) := by
  intro pins s σ H xs us Q I r h
  obtain ⟨i, j, k, rfl, q⟩ := h
  cases r with
  | cons r1 r => cases r with
    | cons r2 r => cases r with
      | cons r3 r =>
        cases r
        obtain ⟨t, rfl⟩ := r1
        obtain ⟨t', rfl⟩ := r2
        obtain ⟨t'', rfl⟩ := r3
        refine min_three_ints (I.ok.hd hc) fun h' tk kk => ⟨_, H, I.kept kk, ?_, q⟩
        by_cases h1 : j < i
        · rw [if_pos h1, if_pos h1]
          by_cases h2 : k < j
          · rw [if_pos h2, if_pos h2]; exact ⟨_, rfl⟩
          · rw [if_neg h2, if_neg h2]; exact ⟨_, rfl⟩
        · rw [if_neg h1, if_neg h1]
          by_cases h2 : k < i
          · rw [if_pos h2, if_pos h2]; exact ⟨_, rfl⟩
          · rw [if_neg h2, if_neg h2]; exact ⟨_, rfl⟩
theorem ze_chain {a b c : Expr} {pos : Pos} {ta tb tc : TE} {op op' : CmpOp} {r r' : R2} (ho : OpR X (compareOp op) r) (ho' : OpR X (compareOp op') r') (ha : ZE X a ta) (hb : ZE X b tb) (hc : ZE X c tc)
    (hm : lastMarks [op, op'] [b, c] = false := by with_unfolding_all rfl) : ZE X (.Compare a [op, op'] [b, c] pos) (tChain r r' ta tb tc) := ⟨pe_chain ho ho' ha.out hb.out hc.out hm⟩
end
end L2
namespace D
open PySem L2 K0 Num
open PySem.W (Dat)
section
variable {p : Option Addr} {K : PySem.W.Frag} {τ τ' : List Sl} {ta tb tc : TE} {tas : TA}
theorem E1.min3 {a b c : Int} (ha : A1 p K tas τ [.dat (.int a), .dat (.int b), .dat (.int c)]) : E1 p K (tCB (fun xs H Q => ∃ i j k, xs = [.int i, .int j, .int k] ∧ Q (.int (if j < i then (if k < j then k else j) else (if k < i then k else i))) H) tas) τ (.dat (.int (if b < a then (if c < b then c else b) else (if c < a then c else a)))) := fun W L σ H Q rs o k => ha W L σ H _ rs o fun vs H1 ss e e1 o1 rv => by
  subst e
  cases rv with
  | cons x r =>
    cases r with
    | cons y r =>
      cases r with
      | cons z r =>
        cases r
        cases x.int_inv
        cases y.int_inv
        cases z.int_inv
        exact ⟨a, b, c, rfl, k _ H1 _ rfl e1 o1 (.int _)⟩
theorem E1.chainLL {i j k : Int} (ha : E1 p K ta τ (.dat (.int i))) (hb : E1 p K tb τ (.dat (.int j))) (hc : E1 p K tc τ (.dat (.int k))) (h1 : i ≤ j) (h2 : j < k) : E1 p K (tChain (rI0 fun i j => .bl (decide (i ≤ j))) (rI0 fun i j => .bl (decide (i < j))) ta tb tc) τ (.dat (.bool true)) :=
  fun W L σ H Q rs o q => ha W L σ H _ rs o fun x H1 s cs e1 o1 rv1 => hb W L σ H1 _ (rs.ev e1 o.pw) o1 fun y H2 t ct e2 o2 rv2 => by
    subst cs ct
    refine ⟨i, j, rv1.int_inv, rv2.int_inv, decide (i ≤ j), rfl, ?_⟩
    rw [if_pos (decide_eq_true h1)]
    exact hc W L σ H2 _ (rs.ev (e1.trans e2) o.pw) o2 fun z H3 u cu e3 o3 rv3 => by
      subst cu
      refine ⟨j, k, rv2.int_inv, rv3.int_inv, ?_⟩
      show Q (.bl (decide (j < k))) H3
      rw [decide_eq_true h2]
      exact q _ H3 _ rfl ((e1.trans e2).trans e3) o3 (.bool _)
theorem Gd.tri3 {g1 g2 g3 : TG} {x y z : Dat} {τ1 τ2 : List Sl} (h1 : Gd p K g1 x τ τ1) (h2 : Gd p K g2 y τ1 τ2) (h3 : Gd p K g3 z τ2 τ') : Gd p K (gTup K 3 (gCons g1 (gCons g2 (gCons g3 gNil)))) (.tuple [x, y, z]) τ τ' := fun W L σ H v Q r zz q => by
  cases zz with
  | tup q1 q2 =>
    cases q2 with
    | cons za t =>
      cases t with
      | cons zb t =>
        cases t with
        | cons zc t =>
          cases t
          exact ⟨_, _, rfl, q1, rfl, _, _, rfl, h1 W L σ H _ _ r za fun L1 σ1 l1 r1 => ⟨_, _, rfl, h2 W L1 σ1 H _ _ r1 zb fun L2 σ2 l2 r2 => ⟨_, _, rfl, h3 W L2 σ2 H _ _ r2 zc fun L3 σ3 l3 r3 => ⟨rfl, q L3 σ3 (fun a h => l1 a (l2 a (l3 a h))) r3⟩⟩⟩⟩
end
noncomputable def RForm : List Dat → Dat → Prop := fun ds r => ∃ a b c d e f : Int, ds = [r3D a b c d e f] ∧ Hnf a b c d e f ∧ r = .bool true
theorem min3_ge {a b c : Int} (h1 : 0 < a) (h2 : 0 < b) (h3 : 0 < c) : decide ((if b < a then (if c < b then c else b) else (if c < a then c else a)) < 1) = false := by
  refine decide_eq_false ?_
  split <;> split <;> omega
noncomputable def RKeptT : List Dat → Dat → Prop := fun ds r => ∃ (fs : List (List Int)) (x y z : Int) (v : Bool), ds = [.list (fs.map tI), tI [x, y, z]] ∧ FourL 97 fs ∧ Bd (2 ^ 4000) [x, y, z] ∧ (v = true ↔ KptA fs x y z) ∧ r = .bool v
theorem kpt_take {fs : List (List Int)} {k : Nat} {F : List Int} {x y z : Int} (h : fs[k]? = some F) : KptA (fs.take (k + 1)) x y z ↔ KptA (fs.take k) x y z ∧ Kpt F x y z := by
  rw [List.take_add_one, h, Option.toList_some, kpt_app]
theorem KptA.at {fs : List (List Int)} {k : Nat} {F : List Int} {x y z : Int} (h : KptA fs x y z) (hF : fs[k]? = some F) : Kpt F x y z := h F (List.mem_of_getElem? hF)
theorem dvd_md {N t : Int} : N ∣ t ↔ t % N = 0 := Int.dvd_iff_emod_eq_zero
end D
end

section
set_option Elab.async false
set_option linter.all false
set_option maxRecDepth 100000
set_option maxHeartbeats 4000000
set_option exponentiation.threshold 200000
namespace D
open PySem L2 K0 Num
open PySem.W (Dat)
noncomputable def RSopM : List Dat → Dat → Prop := fun ds d' => (∃ p q r s : Int, ds = [tI [p, q, r, s], tI [p, q, r, s]] ∧ Bd (2 ^ 300) [p, q, r, s] ∧ d' = .int (sop [p, q, r, s] [p, q, r, s])) ∨ (∃ a b c x y z : Int, (ds = [tI [a, b, c], tI [x, y, z]] ∨ ds = [tI [a, b, c], .list [.int x, .int y, .int z]]) ∧ Bd (2 ^ 300) [a, b, c] ∧ Bd (2 ^ 4000) [x, y, z] ∧ d' = .int (sop [a, b, c] [x, y, z]))
end D
end

section
set_option Elab.async false
set_option linter.all false
set_option maxRecDepth 100000
set_option maxHeartbeats 4000000
set_option exponentiation.threshold 200000
namespace D
open PySem L2 K0 Num
open PySem.W (Dat)
section
variable {q : Addr} {ip N M N1 M1 : Nat} {K : PySem.W.Frag} {τ τ' : List Sl} {te ti : TE} {nx : List Sl → Prop} {rt : Sl → Prop} {ds : List Dat} {tt tu : TT}
theorem S2.setL {i j : Nat} {k : Int} {d : Dat} (h : τ[i]? = some (.own ds)) (he : E1 none K te τ (.dat d)) (hi : E1 none K ti τ (.dat (.int k))) (hj : ixN ds.length k = some j) (m : nx (τ.set i (.own (ds.set j d)))) (hm : N ≤ M := by omega) : S2 q ip N M K (tAsg te (gSub (tVar i) ti rSetL)) τ nx rt := fun W L σ H D r o p q1 q2 =>
  he W L σ H _ r o fun v H1 s e0 e1 o1 rv => by
    subst e0
    have r1 := r.ev e1 o.pw
    obtain ⟨a, vs, e, w, n, l, h1, z⟩ := r1.get_own h
    refine ⟨_, e, hi W L σ H1 _ r1 o1 fun y H2 t e3 e2 o2 rv2 => ?_⟩
    subst e3
    cases rv2.int_inv
    have r2 := r1.ev e2 o1.pw
    obtain ⟨a', vs', e', w', n', l', h1', z'⟩ := r2.get_own h
    rw [e] at e'; cases e'
    have qa : q ≠ a := fun z => p.lq (z ▸ l)
    have rv' : Dz (fun a => ¬ W a) K H2 v d := Dz.ev e2 o1.nw rv
    have ev : Ev (fun b => b = a) H2 (upd H2 a (.lst (vs'.set j v))) := ⟨fun b o n h => by rw [upd_ne n]; exact h, Tm.lst h1' _⟩
    have nw : ∀ b, ¬ W b → ¬ b = a := fun b n z => n (z ▸ w)
    refine ⟨a, vs', k, j, rfl, rfl, h1', by rw [z'.len]; exact hj, ?_⟩
    have alw : ∀ b, W b → ∃ ys, upd H2 a (.lst (vs'.set j v)) b = some (.lst ys) := fun b hb => by
      by_cases zz : b = a
      · subst zz; exact ⟨_, upd_same⟩
      · rw [upd_ne zz]; exact o2.al b hb
    refine q1 W L σ _ _ m (((e1.trans e2).ofP o).trans (ev.mono fun b hb => hb ▸ w)) ⟨fun q hq => (by cases hq), alw⟩ alw (fun _ h => .inl h) (fun _ h => .inl h) (Rs.chgO w h1' ((z'.set j rv').ev ev nw) r2 h e) ⟨p.wq, p.lq, p.sq, ?_⟩
    obtain ⟨x1, x2, x3, hx, hy⟩ := (p.pu.keep e1).keep e2
    exact ⟨x1, x2, x3, by rw [upd_ne qa]; exact hx, by omega⟩
end
theorem kqd_r3 (a b c d e f : Int) : PySem.W.kqdOk 9 (r3D a b c d e f) = true := by rfl
theorem KSt.rowKept {fs : List (List Int)} {B : Nat} {a b c d e f : Int} (k : KSt (KptA fs) B a b c d e f) {dd : Dat} (hd : dd ∈ [tI [a, 0, 0], tI [b, c, 0], tI [d, e, f]]) : ∃ x y z : Int, KptA fs x y z ∧ Bd (2 ^ B) [x, y, z] ∧ dd = tI [x, y, z] := by
  obtain ⟨j, hj⟩ := List.mem_iff_getElem?.mp hd
  obtain ⟨x, y, z, hi, hb, e⟩ := k.rowAt hj
  exact ⟨x, y, z, (k.i x y z).mp hi, hb, e⟩
end D
end

section
set_option Elab.async false
set_option linter.all false
set_option maxRecDepth 100000
set_option maxHeartbeats 4000000
set_option exponentiation.threshold 200000
namespace D
open PySem L2 K0 Num
open PySem.W (Dat)
noncomputable def RInL : List Dat → Dat → Prop := fun ds r => ∃ (a b c d e f x y z : Int) (v : Bool), ds = [r3D a b c d e f, .list [.int x, .int y, .int z]] ∧ 0 < a ∧ 0 < c ∧ 0 < f ∧ Bt a 2500 ∧ Bt b 2500 ∧ Bt c 2500 ∧ Bt d 2500 ∧ Bt e 2500 ∧ Bt f 2500 ∧ Bt x 2600 ∧ Bt y 2600 ∧ Bt z 2600 ∧ (v = true ↔ In a b c d e f x y z) ∧ r = .bool v
theorem in_look {a b c d e f x y z m1 m2 m3 : Int} {v : Bool} (a0 : 0 < a) (c0 : 0 < c) (f0 : 0 < f) (bb : Bt b 2500) (bd : Bt d 2500) (be : Bt e 2500) (bx : Bt x 2600) (by' : Bt y 2600) (bz : Bt z 2600) (e3 : m3 = z / f) (e2 : m2 = (y - m3 * e) / c) (e1 : m1 = (x - m3 * d - m2 * b) / a) (hv : v = true ↔ In a b c d e f x y z) :
    Bt m1 8000 ∧ Bt m2 6000 ∧ Bt m3 2600 ∧ decide ([m1 * a + m2 * b + m3 * d, m2 * c + m3 * e, m3 * f] = [x, y, z]) = v := by
  have dv : ∀ {s t r : Int} {B : Nat}, r = s / t → Bt s B → Bt r B := fun h hb => h ▸ Nat.le_trans (Int.natAbs_ediv_le_natAbs _ _) hb
  have w3 := dv e3 bz
  have w2 := dv e2 (Bt.sub' by' (w3.mul be))
  have w1 := dv e1 (Bt.sub' (Bt.sub' bx (w3.mul bd)) (w2.mul bb))
  refine ⟨w1.up (by decide), w2.up (by decide), w3, ?_⟩
  by_cases h : In a b c d e f x y z
  · rw [hv.mpr h]
    obtain ⟨n1, n2, n3, ex, ey, ez⟩ := h
    have q3 : m3 = n3 := by rw [e3, ez]; exact Int.mul_ediv_cancel _ (by omega)
    subst q3
    have q2 : m2 = n2 := by rw [e2, ey, Int.add_sub_cancel]; exact Int.mul_ediv_cancel _ (by omega)
    subst q2
    have q1 : m1 = n1 := by rw [e1, ex, Int.add_sub_cancel, Int.add_sub_cancel]; exact Int.mul_ediv_cancel _ (by omega)
    subst q1
    exact decide_eq_true (by rw [ex, ey, ez])
  · have : v = false := by
      cases v with
      | false => rfl
      | true => exact absurd (hv.mp rfl) h
    rw [this]
    refine decide_eq_false fun hh => h ?_
    obtain ⟨h1, h2, h3⟩ := l3_inj hh
    exact ⟨m1, m2, m3, h1.symm, h2.symm, h3.symm⟩
end D
end

section
set_option Elab.async false
set_option linter.all false
set_option maxRecDepth 100000
set_option maxHeartbeats 4000000
set_option exponentiation.threshold 200000
namespace D
open PySem L2 K0 Num
open PySem.W (Dat)
end D
end

section
set_option Elab.async false
set_option linter.all false
set_option maxRecDepth 100000
set_option maxHeartbeats 4000000
set_option exponentiation.threshold 200000
namespace D
open PySem L2 K0 Num
open PySem.W (Dat)
end D
end

section
set_option Elab.async false
set_option linter.all false
set_option maxRecDepth 100000
set_option maxHeartbeats 4000000
set_option exponentiation.threshold 200000
namespace D
open PySem L2 K0 Num
open PySem.W (Dat)
section
variable (a b c e : Int)
end
end D
end

section
set_option Elab.async false
set_option linter.all false
set_option maxRecDepth 100000
set_option maxHeartbeats 4000000
set_option exponentiation.threshold 200000
namespace D
open PySem L2 K0 Num
open PySem.W (Dat)
end D
end

section
set_option Elab.async false
set_option linter.all false
set_option maxRecDepth 100000
set_option maxHeartbeats 4000000
set_option exponentiation.threshold 200000
namespace D
open PySem L2 K0 Num
open PySem.W (Dat)
section
variable {n k R1 R2 S1 S2 T1 T2 P Q s t : Int}
end
end D
end

section
set_option Elab.async false
set_option linter.all false
set_option maxRecDepth 100000
set_option maxHeartbeats 4000000
set_option exponentiation.threshold 200000
namespace D
open PySem L2 K0 Num
open PySem.W (Dat)
end D
end

section
set_option Elab.async false
set_option linter.all false
set_option maxRecDepth 100000
set_option maxHeartbeats 4000000
set_option exponentiation.threshold 200000
namespace D
open PySem L2 K0 Num
open PySem.W (Dat)
end D
end

section
set_option Elab.async false
set_option linter.all false
set_option maxRecDepth 100000
set_option maxHeartbeats 4000000
set_option exponentiation.threshold 200000
namespace D
open PySem L2 K0 Num
open PySem.W (Dat)
end D
end

section
set_option Elab.async false
set_option linter.all false
set_option maxRecDepth 100000
set_option maxHeartbeats 4000000
set_option exponentiation.threshold 200000
namespace D
open PySem L2 K0 Num
open PySem.W (Dat)
end D
end

section
set_option Elab.async false
set_option linter.all false
set_option maxRecDepth 100000
set_option maxHeartbeats 4000000
set_option exponentiation.threshold 200000
namespace L2
open PySem PySem.Spec PyProof.Rows
section
variable {X : Cx}
end
end L2
namespace D
open PySem L2 K0 Num
open PySem.W (Dat)
section
variable {p : Option Addr} {K : PySem.W.Frag} {W : Addr → Prop} {L : List Addr} {σ : St} {H H0 H1 H2 : Hp} {τ τ' : List Sl} {ta tb te : TE} {tas : TA} {v : V} {s : Sl} {nx : List Sl → Prop} {rt : Sl → Prop} {t u : TS} {ds : List Dat} {E' : XK}
variable {P : Program} {w : World} {mg : Str → Option Value} {base : Heap}
end
end D
end

section
set_option Elab.async false
set_option linter.all false
set_option maxRecDepth 100000
set_option maxHeartbeats 4000000
set_option exponentiation.threshold 200000
namespace D
open PySem L2 K0 Num
open PySem.W (Dat)
section
variable {C : Int} {c : Nat} {x y u v : Rat}
end
end D
end

section
set_option Elab.async false
set_option linter.all false
set_option maxRecDepth 100000
set_option maxHeartbeats 4000000
set_option exponentiation.threshold 200000
namespace D
open PySem L2 K0 Num
open PySem.W (Dat)
noncomputable def Row3.neg (r : Row3) : Row3 := ⟨-r.x, -r.y, -r.z⟩
end D
end

section
set_option Elab.async false
set_option linter.all false
set_option maxRecDepth 100000
set_option maxHeartbeats 4000000
set_option exponentiation.threshold 200000
namespace D
open PySem L2 K0 Num
open PySem.W (Dat)
noncomputable def Row3.sum (r s : Row3) (p q : Rat) : Row3 := ⟨r.x * p + s.x * q, r.y * p + s.y * q, r.z * p + s.z * q⟩
noncomputable def Row3.cr (r s : Row3) : Row3 := ⟨r.y * s.z + r.z * -s.y, r.z * s.x + r.x * -s.z, r.x * s.y + r.y * -s.x⟩
section
variable {C : Int} {c : Nat} {r s a b d : Row3}
end
end D
end

section
set_option Elab.async false
set_option linter.all false
set_option maxRecDepth 100000
set_option maxHeartbeats 4000000
set_option exponentiation.threshold 200000
namespace D
open PySem L2 K0 Num
open PySem.W (Dat)
end D
end

section
set_option Elab.async false
set_option linter.all false
set_option maxRecDepth 100000
set_option maxHeartbeats 4000000
set_option exponentiation.threshold 200000
namespace L2
open PySem PySem.Spec PyProof.Rows
theorem ps_compK {xk : Str} {scope : Scope} {elt tg iter : Expr} {ifs : List Expr} {pos : Pos} {wi : TI} {g : TG} {tt : TT} {te : TE} {X : Cx} {i : Nat} {x : Str} {pos' spos : Pos} {N0 P0 : List Str} {sc : Scope} (S0 : FnScope N0 P0 sc) (hc : X.calm = true) (S1 : CompScopeK xk N0 sc scope) (hi : PI X tg iter wi)
    (hg : ∀ C fp s H, (maskN [xk] N0).Nodup → PG (cxCompK X xk scope C fp s H) tg g) (ht : ∀ C fp s H, PTs (cxCompK X xk scope C fp s H) ifs tt) (he : ∀ C fp s H, PE (cxCompK X xk scope C fp s H) elt te)
    (hN : X.N.Nodup) (hiN : X.N[i]? = some x) (hx : Loc X.env.scope x)
    (hsw : swapsWith (.ListComp elt [⟨tg, iter, ifs, 0⟩] scope pos) (some (.Name x pos')) spos.line X.env = pure true)
    (hs : ∀ x, foldedSetIterable iter X.env x = pure x := by intro _; rfl) (hf : X.fn x = true ∨ X.env.scope.names.lookup x = some .local := by first | exact .inl rfl | exact .inr rfl | assumption) (hN0 : X.N = N0 := by rfl) (hsc : X.env.scope = sc := by rfl) :
    PS X (.Assign [.Name x pos'] (.ListComp elt [⟨tg, iter, ifs, 0⟩] scope pos) spos) (tAsg (tCompB 1 wi g tt te) (gName i)) := by
  intro pins s σ H D I h
  subst hN0 hsc
  have S := S1
  replace hg := fun C fp s H => hg C fp s H S1.nd
  rw [exec_Assign_Name_used _ _ _ _ hsw]
  refine wpAny_bind (wpAny_standAt (wpAny_bind ?_))
  show wpAny _ X.A (do let _ ← comprehension (.ListComp elt [⟨tg, iter, ifs, 0⟩] scope pos) scope X.env _ (newList []) false (eval iter X.env) (some (assign (.Name x pos') X.env))) _ _ s
  refine wpAny_bind (wpAny_mono (wpAny_comprehension_free (use := some (assign (.Name x pos') X.env)) (Q := fun _ s' => SP X pins D .next s') rfl hs (comp_closK S I) S.kind S.loc
    (thn (hi pins s σ H _ I h) fun xv s₁ h₁ => thn h₁ fun itv s₂ h₂ => ?_)) (fun _ s' hq => wpAny_pure (wpAny_pure hq)) fun _ _ e => e)
  obtain ⟨it, fp, tn, J, H2, rfl, I2, T, st2, f2, q2⟩ := h₂
  refine comp_blockK (Q := fun v H => D.nx (σ.set i (some v)) H) hc S hg ht he I2 T st2 f2 q2 ?_
  intro Dl C s' H' m I' hm hC hCle q
  have hL := I2.lt
  have hcl : ∀ x c, X.env.cells.lookup x = some c → c < s₂.heap.objs.size := fun x c e => let ⟨v, z⟩ := I2.cell x c e; z.lt
  show wpAny _ X.A (assign (.Name x pos') X.env (.ref Dl)) _ _ _
  refine wpAny_assign_Name (store_ok2 I' hN hiN hx (v := .ref Dl) rfl (fun s'' I'' ⟨a, sb, ha⟩ => ?_) hf)
  have ne : C ≠ a := by
    rcases ha with rfl | ha
    · exact Nat.ne_of_gt (Nat.lt_of_lt_of_le hL hCle)
    · exact Nat.ne_of_gt (Nat.lt_of_lt_of_le (hcl _ _ ha) hCle)
  refine ⟨m, hm.sameBut sb ne, fun h' hs' => ⟨_, H', ?_, q⟩⟩
  exact I''.letgo hC I2.sz hCle hL hcl (fun p hp => Heap.lt_size (I2.pin p hp).1) hs'
theorem zs_compK {X : Cx} {xk x : Str} {tg : Expr} {te : TE} {pos : Pos} {scope sc : Scope} {iter elt : Expr} {ifs : List Expr} {wi : TI} {g : TG} {tt : TT} {i : Nat} {pos' spos : Pos} {N0 P0 : List Str} (S0 : FnScope N0 P0 sc) (hc : X.calm = true) (S1 : CompScopeK xk N0 sc scope) (hi : ZI X tg iter wi)
    (hg : ∀ C fp s H, (maskN [xk] N0).Nodup → ZG (cxCompK X xk scope C fp s H) tg g) (ht : ∀ C fp s H, ZTs (cxCompK X xk scope C fp s H) ifs tt) (he : ∀ C fp s H, ZE (cxCompK X xk scope C fp s H) elt te)
    (hN : X.N.Nodup) (hiN : X.N[i]? = some x) (hx : Loc X.env.scope x)
    (hsw : swapsWith (.ListComp elt [⟨tg, iter, ifs, 0⟩] scope pos) (some (.Name x pos')) spos.line X.env = pure true)
    (hs : ∀ x, foldedSetIterable iter X.env x = pure x := by intro _; rfl) (hf : X.fn x = true ∨ X.env.scope.names.lookup x = some .local := by first | exact .inl rfl | exact .inr rfl | assumption) (hN0 : X.N = N0 := by rfl) (hsc : X.env.scope = sc := by rfl) :
    ZS X (.Assign [.Name x pos'] (.ListComp elt [⟨tg, iter, ifs, 0⟩] scope pos) spos) (tAsg (tCompB 1 wi g tt te) (gName i)) :=
  ⟨ps_compK S0 hc S1 hi.out (fun C fp s H n => (hg C fp s H n).out) (fun C fp s H => (ht C fp s H).out) (fun C fp s H => (he C fp s H).out) hN hiN hx hsw hs hf hN0 hsc⟩
theorem call_sumLK {X : Cx} {x : Str} {scope : Scope} {C : Addr} {fp : List Addr} {s : Shared} {H : Hp} (hc : (cxCompK X x scope C fp s H).calm = true) : CallR (cxCompK X x scope C fp s H) (.builtin "sum") (fun xs H Q => ∃ (a : Addr) (ns : List Int), xs = [.ref a] ∧ SqL X.K H a (ns.map V.int) ∧ Q (.int ns.sum) H) := call_sumL hc
end L2
namespace D
open PySem L2 K0 Num
open PySem.W (Dat)
noncomputable def flatD : Sl → Bool
  | .un => true
  | .dat _ => true
  | _ => false
noncomputable def flatDs : List Sl → Bool
  | [] => true
  | s :: r => flatD s && flatDs r
noncomputable def GivesX (d : Dat) : Sl → Prop
  | .dat e => d = e
  | .own ds => d = .list ds
  | _ => False
theorem Rs.reset {p : Option Addr} {W W' : Addr → Prop} {K : PySem.W.Frag} {H : Hp} {L : List Addr} {σ : St} {τ : List Sl} (r : Rs p W K H L σ τ) (m : ∀ a, W' a → W a) : flatDs τ = true → Rs none W' K H [] σ τ := by
  induction r with
  | nil => intro _; exact .nil
  | un _ ih => intro h; rw [flatDs, flatD, Bool.true_and] at h; exact .un (ih h)
  | dat z _ ih => intro h; rw [flatDs, flatD, Bool.true_and] at h; exact .dat (z.mono fun a n y => n (m a y)) (ih h)
  | pu _ _ _ => intro h; rw [flatDs] at h; exact absurd (Bool.and_eq_true_iff.mp h).1 (by decide)
  | own _ _ _ _ _ _ _ => intro h; rw [flatDs] at h; exact absurd (Bool.and_eq_true_iff.mp h).1 Bool.false_ne_true
noncomputable def spDX (K : PySem.W.Frag) (c : Nat) (R : List Dat → (Dat → Prop) → Prop) : Sp := fun vs H Q _ => ∃ q us ds C N, vs = V.ref q :: us ∧ Dzs (fun a => a ≠ q) K H us ds ∧ Pu3 N H q ∧ N + c ≤ 2 ^ 60 ∧ R ds C ∧ ∀ v H' d, C d → Ev (fun a => a = q) H H' → Pu3 (N + c) H' q → Dz (fun a => a ≠ q) K H' v d → Q v H'
noncomputable def S2X (q : Addr) (ip N M : Nat) (K : PySem.W.Frag) (ts : TS) (τ : List Sl) (rt : Sl → Prop) : Prop := ∀ (W : Addr → Prop) (L : List Addr) (σ : St) (H : Hp) (D : Ends), Rs none W K H L σ τ → Ok none W H → P3 q ip N W L σ H →
  (∀ (W' : Addr → Prop) H' v s, rt s → Ev W H H' → Ok none W' H' → (∀ a, W a → ∃ ys, H' a = some (.lst ys)) → (∀ a, W' a → W a ∨ H a = none) → Rr none W' K L H H' v s → Pu3 M H' q → W' q → D.rt v H') → ts D σ H
noncomputable def E2X (q : Addr) (ip N M : Nat) (K : PySem.W.Frag) (te : TE) (τ : List Sl) (C : Sl → Prop) : Prop := ∀ (L : List Addr) (σ : St) (H : Hp) (Q : VK), Rs none (fun a => a = q) K H L σ τ → Ok none (fun a => a = q) H → P3 q ip N (fun a => a = q) L σ H → (∀ v H' s, C s → Ev (fun a => a = q) H H' → Ok none (fun a => a = q) H' → Pu3 M H' q → Rv none (fun a => a = q) K H H' v s → Q v H') → te σ H Q
section
variable {p : Option Addr} {q : Addr} {ip N M N1 M1 : Nat} {K : PySem.W.Frag} {W : Addr → Prop} {L : List Addr} {σ : St} {H H0 H1 H2 H' : Hp} {τ τ' : List Sl} {ta tb te : TE} {tas : TA} {v : V} {s : Sl} {nx : List Sl → Prop} {rt : Sl → Prop} {t u : TS} {ds : List Dat} {wi : TI} {tt : TT} {E' : XK}
theorem S2X.seq {X : List Sl → Prop} (h1 : S2 q ip N M1 K t τ X (fun _ => False)) (h2 : ∀ τ', X τ' → S2X q ip M1 M K u τ' rt) : S2X q ip N M K (tSeq t u) τ rt := fun W L σ H D r o p q2 =>
  h1 W L σ H _ r o p (fun W1 L1 σ1 H1 τ1 m e1 o1 w1 n1 l1 r1 p1 => by
    have hn : ∀ a, H1 a = none → H a = none := fun a ha => e1.none w1 ha
    exact h2 τ1 m W1 L1 σ1 H1 D r1 o1 p1 fun W2 H2 v s c e2 o2 w2 n2 rv p2 wq => q2 W2 H2 v s c (e1.chain e2 n1) o2 (al_chain w1 w2 e2) (fun a ha => (n2 a ha).elim (n1 a) fun z => .inr (hn a z)) (rv.base hn l1) p2 wq) fun W' H' v s c => c.elim
theorem S2X.retO {i : Nat} {ds : List Dat} (h : τ[i]? = some (.own ds)) (m : rt (.own ds)) (hm : N ≤ M := by omega) : S2X q ip N M K (tRet (tVar i)) τ rt := fun W L σ H D r o p q2 => by
  obtain ⟨a, vs, e, w, n, l, h1, z⟩ := r.get_own h
  exact ⟨_, e, q2 W H _ _ m Ev.refl o o.al (fun _ h => .inl h) ⟨a, vs, rfl, .inl l, h1, z⟩ (p.pu.up hm) p.wq⟩
theorem S2.put {i j : Nat} {ds es : List Dat} {τ' : List Sl} (hi : τ[i]? = some (.own ds)) (hj : τ[j]? = some (.own es)) (ij : i ≠ j) (hz : ds.length < sizeLine) (m : nx τ') (e : (τ.set j (.dat (.list es))).set i (.own (ds ++ [.list es])) = τ') (hm : N ≤ M := by omega) : S2 q ip N M K (tDrop (tBM K "list" rAppend (tVar i) (tCons (tVar j) tNil))) τ nx rt := by
  have hj' : j < τ.length := by
    rcases Nat.lt_or_ge j τ.length with h | h
    · exact h
    · rw [List.getElem?_eq_none h] at hj; cases hj
  refine S2.frz hj ?_ rfl
  have hi' : (τ.set j (.dat (.list es)))[i]? = some (.own ds) := by rw [List.getElem?_set_ne (fun z => ij z.symm)]; exact hi
  intro W L σ H D r o p q1 q2
  obtain ⟨a, vs, e0, w, n, l, h1, z⟩ := r.get_own hi'
  obtain ⟨v, ev0, zv⟩ := r.get_dat (i := j) (d := .list es) (by rw [List.getElem?_set_self hj'])
  have qa : q ≠ a := fun z => p.lq (z ▸ l)
  have ev : Ev (fun b => b = a) H (upd H a (.lst (vs ++ [v]))) := ⟨fun b o n h => by rw [upd_ne n]; exact h, Tm.lst h1 _⟩
  have nw : ∀ b, ¬ W b → ¬ b = a := fun b n z => n (z ▸ w)
  have alw : ∀ b, W b → ∃ ys, upd H a (.lst (vs ++ [v])) b = some (.lst ys) := fun b hb => by
    by_cases z : b = a
    · subst z; exact ⟨_, upd_same⟩
    · rw [upd_ne z]; exact o.al b hb
  refine ⟨_, e0, .inl ⟨rfl, _, SqL.of h1⟩, ?_⟩
  refine ⟨_, ev0, ?_⟩
  refine ⟨a, vs, v, rfl, rfl, h1, by rw [z.len]; exact hz, ?_⟩
  subst e
  refine q1 W L σ _ _ m (ev.mono fun b hb => hb ▸ w) ⟨fun q hq => (by cases hq), alw⟩ alw (fun _ h => .inl h) (fun _ h => .inl h) (Rs.chgO w h1 ((z.app (.cons zv .nil)).ev ev nw) r hi' e0) ⟨p.wq, p.lq, p.sq, ?_⟩
  obtain ⟨x1, x2, x3, hx, hy⟩ := p.pu
  exact ⟨x1, x2, x3, by rw [upd_ne qa]; exact hx, by omega⟩
theorem E2X.call {c : Nat} {R : List Dat → (Dat → Prop) → Prop} {ds : List Dat} {C : Dat → Prop} (ha : A1 none K tas τ (ds.map .dat)) (hr : R ds C) (hm : N + c ≤ 2 ^ 60) : E2X q ip N (N + c) K (tCall (spDX K c R) [] E' (tCons (tVar ip) tas)) τ (fun s => ∃ d, s = .dat d ∧ C d) := fun L σ H Q rs o p k =>
  ⟨_, p.sq, ha _ L σ H _ rs o fun vs H1 ss es e1 o1 rv => by
    subst es
    show spDX K c R ((V.ref q :: vs) ++ []) H1 Q E'
    rw [List.append_nil]
    refine ⟨q, vs, ds, C, N, rfl, rv.dats, p.pu.keep e1, hm, hr, fun v H' d c ev pu z => ?_⟩
    exact k v H' _ ⟨d, rfl, c⟩ ((ev_q e1).trans ev) (o1.ev3 ev pu) pu z⟩
theorem S2.forX {c i B : Nat} {tb : TS} {P : List Dat → Prop} (hf : flatDs τ = true) (hw : E2X q ip N M1 K te τ (fun s => ∃ d, s = .dat d ∧ ∃ ds, d = .list ds ∧ P ds)) (I : List Dat → Nat → List Sl → Prop) (h0 : ∀ ds, P ds → I ds 0 τ) (turn : ∀ ds, P ds → ∀ (k : Nat) d τ1, ds[k]? = some d → I ds k τ1 → S2 q ip (M1 + k * c) (M1 + (k + 1) * c) K tb (τ1.set i (.dat d)) (I ds (k + 1)) rt) (done : ∀ ds, P ds → ∀ τ1, I ds ds.length τ1 → nx τ1) (hz : ∀ ds, P ds → ds.length ≤ B) (hi : i ≠ ip := by decide) (hm : M1 + B * c ≤ M := by omega) : S2 q ip N M K (tFor (iList K te) (gName i) tb) τ nx rt := fun W L σ H D r o p q1 q2 => by
  have r' : Rs none (fun a => a = q) K H [] σ τ := r.reset (fun a z => z ▸ p.wq) hf
  have o' : Ok none (fun a => a = q) H := ⟨fun a ha => (by cases ha), fun a ha => o.al a (ha ▸ p.wq)⟩
  have p' : P3 q ip N (fun a => a = q) [] σ H := ⟨rfl, fun z => (by cases z), p.sq, p.pu⟩
  refine hw [] σ H _ r' o' p' fun v H1 s cs e1 o1 p1 rv => ?_
  obtain ⟨d0, es, ds, ed, hP⟩ := cs
  subst es ed
  cases rv with
  | lst h1 h2 =>
    rename_i a xs
    have ew : Ev W H H1 := ofq e1 p.wq
    have alW : ∀ {H2 : Hp}, Ev (fun a => a = q) H1 H2 → (∀ a, a = q → ∃ ys, H2 a = some (.lst ys)) → ∀ b, W b → ∃ ys, H2 b = some (.lst ys) := fun {H2} ev al b hb => by
      by_cases z : b = q
      · exact al b z
      · obtain ⟨ys, h⟩ := o.al b hb
        exact ⟨ys, ev.keep _ _ z (e1.keep _ _ z h)⟩
    have hn : ∀ a, H1 a = none → H a = none := fun a ha => none3 e1 p1 ha
    refine ⟨a, rfl, ⟨xs, h1.sq⟩, ?_⟩
    refine for_core (I ds) (h0 ds hP) (turn ds hP) (done ds hP) hi (Nat.le_trans (Nat.add_le_add_left (Nat.mul_le_mul_right c (hz ds hP)) M1) hm) (r'.ev3 e1 rfl (fun z => by cases z)) o1 (p'.to p1) (fun W' H' ev n => ?_)
      (fun W' L' σ' H' τ' c e2 o2 al n l r' p' => q1 W' L' σ' H' τ' c (ew.trans (e2.mono fun a z => z ▸ p.wq)) o2 (alW e2 al) (fun a ha => (n a ha).elim (fun z => .inl (z ▸ p.wq)) fun z => .inr (hn a z)) (fun a ha => (l a ha).elim (fun z => by cases z) fun z => .inr (hn a z)) r' p')
      (fun W' H' v s c e2 o2 al n rv pu => q2 W' H' v s c (ew.trans (e2.mono fun a z => z ▸ p.wq)) o2 (alW e2 al) (fun a ha => (n a ha).elim (fun z => .inl (z ▸ p.wq)) fun z => .inr (hn a z)) (rv.base hn fun _ h => by cases h) pu)
    have h1' : SqL K H' a xs := by
      rcases h1 with ⟨nn, h1⟩ | h1
      · exact .inl (h1.imp (ev.keep _ _ nn) fun ⟨o, h⟩ => ⟨o, ev.keep _ _ nn h⟩)
      · exact SqN.sq (N := fun _ => True) (.inr h1)
    have h2' := Dzs.old ev n h2
    exact ⟨⟨xs, h1', by rw [h2.len]; exact Nat.le_refl _⟩, fun i d hd => by
      obtain ⟨x, ex, zx⟩ := h2'.get hd
      exact ⟨⟨xs, x, h1', ex⟩, fun y H2 ⟨e, q⟩ => by
        subst e
        have := q xs h1'
        rw [ex] at this; cases this
        exact ⟨Same.refl _, zx⟩⟩⟩
variable {P : Program} {w : World} {mg : Str → Option Value} {base : Heap}
theorem okDX {x qual : Str} {st : Stmt} {f : Addr} {fd : FuncData} {N ps : List Str} {k c : Nat} {R : List Dat → (Dat → Prop) → Prop} (F : Fun K x qual st f fd) (S0 : FnScope N ps (defScope st)) (len : ∀ ds C, R ds C → ds.length + 1 = ps.length)
    (body : ∀ (cdv : Value) (A : Around) (outer : List Env) (s : Shared) (H : Hp) (E : XK), Room k (A.deeper (PyProof.Rows.envOfC qual (defScope st) s.heap.objs.size f cdv)) →
      ∃ t, ZSs (cxOf CX0 P w K mg base N qual (defScope st) f cdv A outer s H E).nox (defBody st) t ∧ ∀ (q : Addr) (n : Nat) ds C, n + c ≤ 2 ^ 60 → R ds C → S2X q 0 n (n + c) K t (.un :: ds.map .dat ++ List.replicate (N.length - ps.length) .un) (fun s => ∃ d, C d ∧ GivesX d s)) : FnOk P w K mg base CX0 (k + 1) f fd ps (spDX K c R) := by
  refine F.okZ S0 (fun vs H Q E h => ?_) (fun cdv A outer s H vs Q E hr h => ?_)
  · obtain ⟨q, us, ds, C, n, rfl, z, _, _, r, _⟩ := h; rw [List.length_cons, z.len]; exact len ds C r
  · obtain ⟨q0, us, ds, C, n, rfl, z, pu, nc, r, k⟩ := h
    obtain ⟨t, hz, hs⟩ := body cdv A outer s H E hr
    refine ⟨t, hz, ?_⟩
    have l : (V.ref q0 :: us).length = ps.length := by rw [List.length_cons, z.len]; exact len ds C r
    have r0 : Rs none (fun a => a = q0) K H [] (L2.start N (.ref q0 :: us)) (.un :: ds.map .dat ++ List.replicate (N.length - ps.length) .un) := by
      unfold L2.start
      rw [l]
      exact .un (rs_start _ z fun a h => h)
    have o0 : Ok none (fun a => a = q0) H := ⟨fun q h => (by cases h), fun a h => by obtain ⟨x, y, z, e, _⟩ := pu; exact ⟨_, by rw [h]; exact e⟩⟩
    refine hs q0 n ds C nc r (fun a => a = q0) [] _ H _ r0 o0 ⟨rfl, fun h => (by cases h), rfl, pu⟩ (fun W' H' v s e ev o' al n rv pu' wq => ?_)
    obtain ⟨d, c, e⟩ := e
    have nq : ∀ a, ¬ W' a → a ≠ q0 := fun a n z => n (z ▸ wq)
    cases s with
    | dat d' =>
      obtain rfl : d = d' := e
      exact k v H' _ c ev pu' (Dz.mono nq rv)
    | own es =>
      obtain rfl : d = .list es := e
      obtain ⟨a, vs, rfl, h1, h2, h3⟩ := rv
      have ha : H a = none := h1.resolve_left (fun z => by cases z)
      exact k _ H' _ c ev pu' (.lst (.inl ⟨fun z => pu.nn (z ▸ ha), .inl h2⟩) (h3.mono nq))
    | un => cases e
    | pu => cases e
    | vw ds => cases e
end
noncomputable def PtOk (p : List Int) : Prop := ∃ x y z : Int, p = [x, y, z] ∧ Bt x 2600 ∧ Bt y 2600 ∧ Bt z 2600
noncomputable def plD (p : List Int) : Dat := .list (p.map .int)
noncomputable def RPts : List Dat → (Dat → Prop) → Prop := fun ds C => ∃ a b c d e f : Int, ds = [r3D a b c d e f] ∧ Bt a 2500 ∧ Bt b 2500 ∧ Bt c 2500 ∧ Bt d 2500 ∧ Bt e 2500 ∧ Bt f 2500 ∧ C = fun g => ∃ es : List Dat, g = .list es ∧ ∃ ps : List (List Int), es = ps.map plD ∧ ps.length = 6 ∧ ∀ p ∈ ps, PtOk p
theorem sum3_bt {u v w : Int} (h1 : Bt u 2532) (h2 : Bt v 2532) (h3 : Bt w 2532) : Bt [u, v, w].sum 2540 := by
  rw [show [u, v, w].sum = u + v + w by simp [List.sum_cons]; omega]
  exact ((h1.add h2).add (h3.up (by decide))).up (by decide)
theorem often_bt {m i : Int} (hm : m ∈ [(3 : Int), 10 ^ Int.toNat 9]) (h : -m ≤ i ∧ i ≤ m) : Bt i 30 := by
  have : m ≤ 2 ^ 30 := by
    simp only [List.mem_cons, List.mem_nil_iff, or_false] at hm
    rcases hm with rfl | rfl <;> decide
  unfold Bt
  omega
theorem most_pos {m : Int} (hm : m ∈ [(3 : Int), 10 ^ Int.toNat 9]) : 0 < m ∧ m < 2 ^ 190 := by
  simp only [List.mem_cons, List.mem_nil_iff, or_false] at hm
  rcases hm with rfl | rfl <;> decide
theorem most2_pos {m : Int} (hm : m ∈ [(20 : Int), 10 ^ Int.toNat 29]) : 0 < m ∧ m < 2 ^ 190 := by
  simp only [List.mem_cons, List.mem_nil_iff, or_false] at hm
  rcases hm with rfl | rfl <;> decide
theorem drawn_bt {m i : Int} (hm : m ∈ [(20 : Int), 10 ^ Int.toNat 29]) (h : -m ≤ i ∧ i ≤ m) : Bt i 2600 := by
  have : m ≤ 2 ^ 100 := by
    simp only [List.mem_cons, List.mem_nil_iff, or_false] at hm
    rcases hm with rfl | rfl <;> decide
  have h2 : Bt i 100 := by unfold Bt; omega
  exact h2.up (by decide)
theorem PtOk.one {x y z : Int} {j : Nat} (hj : j < 3) (h1 : Bt x 2540) (h2 : Bt y 2540) (h3 : Bt z 2540) : ∃ k x' y' z' : Int, (j : Int) = k ∧ atI [Dat.int x, .int y, .int z] k = some (.int (([x, y, z][j]?).getD 0)) ∧ ixN 3 k = some j ∧ ([Dat.int x, .int y, .int z]).set j (.int (([x, y, z][j]?).getD 0 + 1)) = [x', y', z'].map .int ∧ PtOk [x', y', z'] := by
  have o1 : Bt 1 2540 := Nat.one_le_two_pow
  match j, hj with
  | 0, _ => exact ⟨0, x + 1, y, z, rfl, rfl, rfl, rfl, _, _, _, rfl, (h1.add o1).up (by decide), h2.up (by decide), h3.up (by decide)⟩
  | 1, _ => exact ⟨1, x, y + 1, z, rfl, rfl, rfl, rfl, _, _, _, rfl, h1.up (by decide), (h2.add o1).up (by decide), h3.up (by decide)⟩
  | 2, _ => exact ⟨2, x, y, z + 1, rfl, rfl, rfl, rfl, _, _, _, rfl, h1.up (by decide), h2.up (by decide), (h3.add o1).up (by decide)⟩
theorem snoc_ok {P : List Int → Prop} {ps : List (List Int)} {p : List Int} (h : ∀ q ∈ ps, P q) (hp : P p) : ∀ q ∈ ps ++ [p], P q := fun q hq => by
  rcases List.mem_append.mp hq with h' | h'
  · exact h q h'
  · rcases List.mem_singleton.mp h' with rfl; exact hp
end D
end

section
set_option Elab.async false
set_option linter.all false
set_option maxRecDepth 100000
set_option maxHeartbeats 4000000
set_option exponentiation.threshold 200000
namespace L2
open PySem PySem.Spec PyProof.Rows
theorem slicePick_rev (xs : Array Value) : slicePick xs none none (some (-1)) = xs.toList.reverse.toArray := by
  have e : sliceBounds none none (some (-1)) xs.size = ((xs.size : Int) - 1, -1, -1) := by simp [sliceBounds]
  have e2 : sliceRange ((xs.size : Int) - 1) (-1) (-1) = (List.range xs.size).map fun (m : Nat) => (((xs.size : Int) - 1) + (-1) * (m : Int)).toNat := by
    unfold sliceRange
    have hc : (if (-1 : Int) > 0 then (if (xs.size : Int) - 1 < -1 then (-1 - ((xs.size : Int) - 1) + -1 - 1) / -1 else 0) else (if (xs.size : Int) - 1 > -1 then ((xs.size : Int) - 1 - -1 - -1 - 1) / (- -1) else 0)).toNat = xs.size := by
      rw [if_neg (by decide)]
      split
      · simp
      · omega
    dsimp only
    rw [hc]
  unfold slicePick
  rw [e]
  dsimp only
  rw [e2, List.filterMap_map]
  rw [← HT.pick_rev]
  congr 1
  congr 1
  funext m
  simp only [Function.comp]
  rw [Int.mul_comm]
section
variable {X : Cx} {e st : Expr} {te ts : TE} {p2 pos : Pos}
noncomputable def rRevL (K : PySem.W.Frag) : V → Hp → VK → Prop := fun x H Q => ∃ a xs, x = .ref a ∧ SqL K H a xs ∧ ∀ p, H p = none → Q (.ref p) (upd H p (.lst xs.reverse))
theorem ze_revL (he : ZE X e te) (hs : ZE X st ts) (ht : ∀ o r, letTemporaryGo e o r = pure () := by intro _ _; rfl) : ZE X (.Subscript e (.Slice none none (some st) p2) pos) (tRev (rRevL X.K) te ts) := ⟨by
  intro pins s σ H Q I h
  refine wpAny_Subscript_Slice_step (T := "list") slot_list_getitem.lookup (thn (he.out pins s σ H _ I h) fun v s1 ⟨x, H1, I1, r1, q1⟩ => ?_) ht
  refine wpAny_Slice ?_
  rw [evalPart_none]
  refine wpAny_pure (wpAny_pure ?_)
  rw [evalPart_some]
  refine thn (hs.out pins s1 σ H1 _ I1 q1) fun vs s2 ⟨y, H2, I2, r2, e2, q2⟩ => ?_
  subst e2
  obtain ⟨t, rfl⟩ := r2
  obtain ⟨a, xs, rfl, hx, q⟩ := q2
  cases r1
  have I4 : Inv X pins σ H2 { s2 with heap := s2.heap.push { cls := .type "slice", data := .fields #[.none, .none, .int (-1) t] } } := I2.kept (t' := s2.toks) fun b ob q => Heap.get?_push_of_some _ q
  obtain ⟨its, r, ht', hz⟩ := I4.list hx
  refine ⟨ht'.isList.typeIs, ?_⟩
  refine wpAny_getItem_list_slice ht'.isList (Heap.IsSliceOf.new ..) .none .none (.int (-1) t) (by decide) ?_ (by rw [List.size_toArray, ← r.length]; exact hz)
  rw [slicePick_rev]
  refine ⟨.ref _, _, I4.laid (t' := s2.toks) (o := .lst xs.reverse) (fun b ob q => Heap.get?_push_of_some _ q) (Nat.le_refl _) ?_, rfl, q _ (I4.hok.fresh (Nat.le_refl _))⟩
  exact ⟨by rw [List.length_reverse]; exact hz, _, 0, r.reverse, Heap.get?_push_size _ rfl⟩⟩
end
end L2
namespace D
open PySem L2 K0 Num
open PySem.W (Dat)
section
variable {p : Option Addr} {q : Addr} {ip N M N1 M1 : Nat} {K : PySem.W.Frag} {W : Addr → Prop} {L : List Addr} {σ : St} {H H0 H1 H2 H' : Hp} {τ τ' : List Sl} {ta tb te ts : TE} {tas : TA} {v : V} {s : Sl} {nx : List Sl → Prop} {rt : Sl → Prop} {t u : TS} {ds : List Dat} {wi : TI} {tt : TT} {E' : XK}
theorem Dzs.rev {N : Addr → Prop} {H : Hp} : ∀ {vs : List V} {ds : List Dat}, Dzs N K H vs ds → Dzs N K H vs.reverse ds.reverse
  | _, _, .nil => .nil
  | _, _, .cons a r => by rw [List.reverse_cons, List.reverse_cons]; exact (Dzs.rev r).app (.cons a .nil)
theorem E1.revL {ds : List Dat} (h : E1 p K te τ (.dat (.list ds))) (hs : E1 p K ts τ (.dat (.int (-1)))) : E1 p K (tRev (rRevL K) te ts) τ (.own ds.reverse) := fun W L σ H Q rs o k => h W L σ H _ rs o fun v H1 s e e1 o1 rv => by
  subst e
  refine hs W L σ H1 _ (rs.ev e1 o.pw) o1 fun y H2 s2 e2 e3 o2 rv2 => ?_
  subst e2
  cases rv2.int_inv
  refine ⟨rfl, ?_⟩
  have rv' : Dz (fun a => ¬ W a) K H2 v (.list ds) := Dz.ev (W := Pp p) e3 o1.nw rv
  cases rv' with
  | lst h1 h2 =>
    rename_i a xs
    refine ⟨a, xs, rfl, h1.sq, fun l hl => ?_⟩
    have s := Same.new hl (.lst xs.reverse)
    exact k _ _ _ rfl ((e1.trans e3).trans (Ev.of s)) (o2.same s) ⟨l, _, rfl, o1.back e1 (o2.back e3 hl), upd_same, (h2.ev (W := Pp p) (Ev.of s) o2.nw).rev⟩
theorem E1.catOV {j : Nat} {xs ys : List Dat} (ha : E1 p K ta τ (.own xs)) (h : τ[j]? = some (.own ys)) (hz : xs.length + ys.length ≤ sizeLine) : E1 p K (tOp rCat ta (tVar j)) τ (.own (xs ++ ys)) := fun W L σ H Q rs o q => ha W L σ H _ rs o fun v H1 s e e1 o1 rv => by
  subst e
  obtain ⟨a, vs, rfl, h0, h1, h2⟩ := rv
  obtain ⟨b, us, e', w, n, l, h3, z⟩ := (rs.ev e1 o.pw).get_own h
  refine ⟨_, e', ?_⟩
  refine ⟨a, b, vs, us, rfl, rfl, h1, h3, by rw [h2.len, z.len]; exact hz, fun l hl => ?_⟩
  have s := Same.new hl (.lst (vs ++ us))
  exact q _ _ _ rfl (e1.trans (Ev.of s)) (o1.same s) ⟨l, _, rfl, o1.back e1 hl, upd_same, (h2.app z).ev (W := fun _ => False) (Ev.of s) fun _ _ h => h⟩
theorem Rs.unk (r : Rs p W K H L σ τ) : ∀ (i : Nat), ∃ L', (∀ a, a ∈ L' → a ∈ L) ∧ Rs p W K H L' σ (τ.set i .un) := by
  induction r with
  | nil => intro i; exact ⟨[], fun _ h => h, .nil⟩
  | un r ih =>
    intro i
    match i with
    | 0 => exact ⟨_, fun _ h => h, .un r⟩
    | i + 1 => obtain ⟨L', h1, h2⟩ := ih i; exact ⟨L', h1, .un h2⟩
  | dat y r ih =>
    intro i
    match i with
    | 0 => exact ⟨_, fun _ h => h, .un r⟩
    | i + 1 => obtain ⟨L', h1, h2⟩ := ih i; exact ⟨L', h1, .dat y h2⟩
  | pu y r ih =>
    intro i
    match i with
    | 0 => exact ⟨_, fun _ h => h, .un r⟩
    | i + 1 => obtain ⟨L', h1, h2⟩ := ih i; exact ⟨L', h1, .pu y h2⟩
  | own h1 h2 h3 h4 h5 r ih =>
    intro i
    match i with
    | 0 => exact ⟨_, fun _ h => List.mem_cons_of_mem _ h, .un r⟩
    | i + 1 =>
      obtain ⟨L', g1, g2⟩ := ih i
      refine ⟨_ :: L', fun b hb => ?_, .own h1 h2 (fun z => h3 (g1 _ z)) h4 h5 g2⟩
      rcases List.mem_cons.mp hb with rfl | hb
      · exact List.mem_cons_self
      · exact List.mem_cons_of_mem _ (g1 b hb)
theorem S2.un (i : Nat) {τ' : List Sl} (m : S2 q ip N M K t τ' nx rt) (e : τ.set i .un = τ' := by rfl) : S2 q ip N M K t τ nx rt := fun W L σ H D r o p q1 q2 => by
  obtain ⟨L', l, r'⟩ := r.unk i
  rw [e] at r'
  exact m W L' σ H D r' o ⟨p.wq, fun z => p.lq (l _ z), p.sq, p.pu⟩ (fun W' L2 σ' H' τ' c ev o' al n ll rs pp => q1 W' L2 σ' H' τ' c ev o' al n (fun a ha => (ll a ha).imp (l a) id) rs pp) fun W' H' v s c ev o' al n rv pp => q2 W' H' v s c ev o' al n (rv.base (fun _ z => z) fun a ha => .inl (l a ha)) pp
theorem S2N.of2 (h : S2 q ip N M K t τ nx rt) : S2N q ip N K t τ nx rt := fun W L σ H D r o p q1 q2 => h W L σ H D r o p (fun W' L' σ' H' τ' c e o' al n l r' _ => q1 W' L' σ' H' τ' c e o' al n l r') fun W' H' v s c e o' al n rv _ => q2 W' H' v s c e o' al n rv
theorem S2N.ifsF {tc : TT} (h : T1 none K tc τ false) (m : S2N q ip N K u τ nx rt) : S2N q ip N K (tSeq (tIfS tc t tNext) u) τ nx rt :=
  S2N.seq (M1 := N) (X := fun τ' => τ' = τ) (S2.iff (T1.ofB h) (fun e => by cases e) fun _ => S2.next rfl) fun τ' e => e ▸ m
end
theorem KptA.rev {fs : List (List Int)} {x y z : Int} : KptA fs.reverse x y z ↔ KptA fs x y z := ⟨fun h F hF => h F (List.mem_reverse.mpr hF), fun h F hF => h F (List.mem_reverse.mp hF)⟩
theorem Rows.rev {fs : List (List Int)} {a b c d e f : Int} (h : Rows fs a b c d e f) : Rows fs.reverse a b c d e f := ⟨h.1, fun x y z => (h.2 x y z).trans KptA.rev.symm⟩
theorem FourL.rev {m : Nat} {fs : List (List Int)} (h : FourL m fs) : FourL m fs.reverse := fun F hF => h F (List.mem_reverse.mp hF)
noncomputable def Alone (fs : List (List Int)) (als : List Dat) : Prop := als.length = fs.length ∧ ∀ (i : Nat) F, fs[i]? = some F → ∃ a b c d e f : Int, als[i]? = some (r3D a b c d e f) ∧ KSt (KptA [F]) 2401 a b c d e f
theorem alone_ex : ∀ (fs : List (List Int)), FourL 97 fs → ∃ als, Alone fs als
  | [], _ => ⟨[], rfl, fun i F h => by simp at h⟩
  | F :: fs, h => by
    obtain ⟨als, l, ha⟩ := alone_ex fs fun G hG => h G (List.mem_cons_of_mem _ hG)
    obtain ⟨a, b, c, d, e, f, k⟩ := kst_ex [F] (fun G hG => h G (by rw [List.mem_singleton.mp hG]; exact List.mem_cons_self)) (show 1 ≤ 5 by decide)
    refine ⟨r3D a b c d e f :: als, by rw [List.length_cons, List.length_cons, l], fun i G hG => ?_⟩
    match i, hG with
    | 0, hG => injection hG with hG; subst hG; exact ⟨a, b, c, d, e, f, rfl, k.to (fun _ _ _ => Iff.rfl) (show 600 * 1 + 1 ≤ 2401 by decide)⟩
    | i + 1, hG => exact ha i G hG
theorem Alone.mem {fs : List (List Int)} {als : List Dat} (h : Alone fs als) {o : Dat} (ho : o ∈ als) : ∃ F ∈ fs, ∃ a b c d e f : Int, o = r3D a b c d e f ∧ KSt (KptA [F]) 2401 a b c d e f := by
  obtain ⟨i, hi⟩ := List.mem_iff_getElem?.mp ho
  have il : i < fs.length := by
    have := (List.getElem?_eq_some_iff.mp hi).1
    rw [h.1] at this; exact this
  obtain ⟨a, b, c, d, e, f, h1, k⟩ := h.2 i fs[i] (by simp [il])
  rw [hi] at h1
  injection h1 with h1
  exact ⟨fs[i], List.getElem_mem il, a, b, c, d, e, f, h1, k⟩
theorem Alone.all {fs : List (List Int)} {als : List Dat} (h : Alone fs als) {F : List Int} (hF : F ∈ fs) : ∃ a b c d e f : Int, r3D a b c d e f ∈ als ∧ KSt (KptA [F]) 2401 a b c d e f := by
  obtain ⟨i, hi⟩ := List.mem_iff_getElem?.mp hF
  obtain ⟨a, b, c, d, e, f, h1, k⟩ := h.2 i F hi
  exact ⟨a, b, c, d, e, f, List.mem_of_getElem? h1, k⟩
noncomputable def inB (x y z : Int) (o : Dat) : Bool := open Classical in decide (∃ a b c d e f : Int, o = r3D a b c d e f ∧ In a b c d e f x y z)
theorem r3D_inj {a b c d e f a' b' c' d' e' f' : Int} (h : r3D a b c d e f = r3D a' b' c' d' e' f') : a = a' ∧ b = b' ∧ c = c' ∧ d = d' ∧ e = e' ∧ f = f' := by
  unfold r3D tI at h
  simp only [List.map_cons, List.map_nil] at h
  injection h with h
  injection h with h1 h
  injection h with h2 h
  injection h with h3 _
  injection h1 with h1
  injection h2 with h2
  injection h3 with h3
  injection h1 with h1 _
  injection h2 with h2 h2'
  injection h2' with h2' _
  injection h3 with h3 h3'
  injection h3' with h3' h3''
  injection h3'' with h3'' _
  injection h1 with h1
  injection h2 with h2
  injection h2' with h2'
  injection h3 with h3
  injection h3' with h3'
  injection h3'' with h3''
  exact ⟨h1, h2, h2', h3, h3', h3''⟩
theorem inB_iff {a b c d e f x y z : Int} : inB x y z (r3D a b c d e f) = true ↔ In a b c d e f x y z := by
  unfold inB
  refine (@decide_eq_true_iff _ (Classical.propDecidable _)).trans ?_
  constructor
  · rintro ⟨a', b', c', d', e', f', h, hi⟩
    obtain ⟨rfl, rfl, rfl, rfl, rfl, rfl⟩ := r3D_inj h
    exact hi
  · exact fun h => ⟨a, b, c, d, e, f, rfl, h⟩
theorem kpt_one1 {F : List Int} {x y z : Int} : KptA [F] x y z ↔ Kpt F x y z := ⟨fun h => h F List.mem_cons_self, fun h G hG => by rw [List.mem_singleton.mp hG]; exact h⟩
theorem due72 {fs : List (List Int)} {als : List Dat} {B : Nat} {a b c d e f x y z : Int} (k : KSt (KptA fs) B a b c d e f) (h : Alone fs als) : decide (((als.filter fun o => !inB x y z o).length : Int) = 0) = inB x y z (r3D a b c d e f) := by
  rw [Bool.eq_iff_iff, decide_eq_true_iff, inB_iff, k.i x y z]
  constructor
  · intro hl F hF
    obtain ⟨a', b', c', d', e', f', hm, k'⟩ := h.all hF
    have hn : als.filter (fun o => !inB x y z o) = [] := List.eq_nil_of_length_eq_zero (by omega)
    have := List.filter_eq_nil_iff.mp hn _ hm
    have hin : inB x y z (r3D a' b' c' d' e' f') = true := by simpa using this
    exact kpt_one1.mp ((k'.i x y z).mp (inB_iff.mp hin))
  · intro hk
    have hn : als.filter (fun o => !inB x y z o) = [] := List.filter_eq_nil_iff.mpr fun o ho => by
      obtain ⟨F, hF, a', b', c', d', e', f', rfl, k'⟩ := h.mem ho
      have : inB x y z (r3D a' b' c' d' e' f') = true := inB_iff.mpr ((k'.i x y z).mpr (kpt_one1.mpr (hk F hF)))
      simp [this]
    rw [hn]; rfl
theorem four_snoc {fs : List (List Int)} {f : List Int} (h : FourL 97 fs) (hf : f.length = 4 ∧ (∃ n ∈ f, n ≠ 0) ∧ Bd (2 ^ 97) f) : FourL 97 (fs ++ [f]) := fun F hF => by
  rcases List.mem_append.mp hF with h' | h'
  · exact h F h'
  · rcases List.mem_singleton.mp h' with rfl; exact hf
theorem noLs_all : ∀ {ds : List Dat}, (∀ d ∈ ds, noL d = true) → noLs ds = true
  | [], _ => by rw [noLs]
  | d :: r, h => by rw [noLs, h d List.mem_cons_self, noLs_all fun x hx => h x (List.mem_cons_of_mem _ hx)]; rfl
theorem alone_nl {fs : List (List Int)} {als : List Dat} (h : Alone fs als) : noLs als = true := noLs_all fun d hd => by
  obtain ⟨F, _, a, b, c, d, e, f, rfl, _⟩ := h.mem hd
  rfl
end D
end

section
set_option Elab.async false
set_option linter.all false
set_option maxRecDepth 100000
set_option maxHeartbeats 4000000
set_option exponentiation.threshold 200000
namespace K72
open PySem L2 Num K0 D
open PySem.W (Dat)
noncomputable def top (i : Nat) : Stmt := PySem.Challenge.pw_hangrings_k72_points_of_several_turns.main.body.getD i (.Pass ⟨0, 0, 0, 0⟩)
noncomputable abbrev sCD : Stmt := top 1
noncomputable abbrev sRed : Stmt := top 2
noncomputable abbrev sNeg : Stmt := top 3
noncomputable abbrev sSopL : Stmt := top 4
noncomputable abbrev sInv : Stmt := top 5
noncomputable abbrev sPlain : Stmt := top 7
noncomputable abbrev sSize : Stmt := top 8
noncomputable abbrev sWT : Stmt := top 9
noncomputable abbrev sSolved : Stmt := top 12
noncomputable abbrev sDivRows : Stmt := top 13
noncomputable abbrev sSummed : Stmt := top 14
noncomputable abbrev sTidied : Stmt := top 15
noncomputable abbrev sKeptRows : Stmt := top 16
noncomputable abbrev sAt3 : Stmt := top 18
noncomputable abbrev sWholes3 : Stmt := top 19
noncomputable abbrev sMix3 : Stmt := top 20
noncomputable abbrev sPur3 : Stmt := top 21
noncomputable abbrev sDraw3 : Stmt := top 22
noncomputable abbrev sSm3 : Stmt := top 23
noncomputable abbrev sFour3 : Stmt := top 24
noncomputable abbrev sSumM : Stmt := top 25
noncomputable abbrev sRows3 : Stmt := top 26
noncomputable abbrev sGcd3 : Stmt := top 28
noncomputable abbrev sShr3 : Stmt := top 29
noncomputable abbrev sPl3 : Stmt := top 30
noncomputable abbrev sKeptT : Stmt := top 31
noncomputable abbrev sForm72 : Stmt := top 32
noncomputable abbrev sInL : Stmt := top 33
noncomputable abbrev sPts72 : Stmt := top 34
noncomputable abbrev sLaw : Stmt := top 35
noncomputable abbrev sSop : Stmt := top 4
noncomputable abbrev sSopp1 : Stmt := top 25
local macro_rules | `(tactic| walk_at "bt") => `(tactic| (repeat' (first | assumption | exact bt2 | apply Bt.mul | apply Bt.add' | apply Bt.sub' | apply Bt.neg' | exact bd_lit (k := 64) (by decide))))
local macro_rules | `(tactic| walk_at "au3") => `(tactic| (repeat' (first | exact E1.var rfl | exact E1.varP rfl | exact E1.int | exact E1.bl | exact E1.non | exact E1.str | exact A1.nil | exact O1.none | exact E1.ty | exact T1.all | exact E1.varO rfl | exact E1.varL rfl | apply A1.cons | apply E1.add | apply E1.sub | apply E1.mul | apply E1.neg | apply E1.pow | apply E1.ixT | apply E1.tu | apply E1.li | apply E1.sl1 | apply O1.some | apply T1.test | apply T1.val | apply T1.not | apply T1.and1 | apply T1.or1 | apply E1.eq | apply E1.ne | apply E1.lt | apply E1.le | apply E1.gt | apply E1.ge | apply E1.cSop | apply E1.tupleL | apply E1.su | apply E1.vwo | apply E1.comp3 | apply Wk.r3 | apply Wk.tup | rfl | exact lsz (n := 2) rfl z2 | exact lsz (n := 3) rfl z3 | exact lsz (n := 4) rfl z4 | exact lsz (n := 1) rfl z1 | exact lsz (n := 0) rfl z0 | exact cpow10 (by decide) (by decide) | exact Bt.mulOk (x := _) (y := _) (by walk_at "bt") (by walk_at "bt") (by decide) (by decide))))
section
variable {P : Program} {w : World} {K : PySem.W.Frag} {mg : Str → Option Value} {base : Heap} {dCOUNTS dWAYS dPLACES dUNITS f g g2 g3 g4 g5 g6 g7 g8 g9 g10 g11 g12 g13 g14 g15 : Addr} {fd gd gd2 gd3 gd4 gd5 gd6 gd7 gd8 gd9 gd10 gd11 gd12 gd13 gd14 gd15 : FuncData}
theorem scCD : FnScope ["numbers", "divisor", "number", "other", "left"] ["numbers"] (defScope sCD) := ⟨rfl, rfl, rfl, by decide +kernel, rfl, by decide +kernel, by decide +kernel⟩
theorem ok_cd (F : Fun K "common_divisor" "common_divisor" sCD f fd) (ma : mg "abs" = none) : FnOk P w K mg base CX0 1 f fd ["numbers"] (spCD K) := by
  refine F.okZ scCD (fun vs H Q E h => ?_) (fun cdv A outer s H vs Q E hr h => ?_)
  · obtain ⟨a, ns, rfl, _⟩ := h; rfl
  obtain ⟨a, ns, rfl, hS, q⟩ := h
  refine ⟨_, zss_cons (zs_set (i := 1) scCD.nd rfl (Or.inl rfl) ze_int) (zss_cons (zs_for PassesOwn.never rfl (zi_tup (zv 0)) (zg_name (i := 2) scCD.nd rfl (Or.inl rfl))
      (zss_cons (zs_set (i := 3) scCD.nd rfl (Or.inl rfl) (ze_callB call_abs rfl ma (by rfl) (za_cons (zv 2) za_nil)))
        (zss_one (zs_while PassesOwn.never (zt_cmpR op_ne (zv 3) ze_int (nomark _)) (zss_cons (zs_set (i := 4) scCD.nd rfl (Or.inl rfl) (ze_op op_mod (zv 1) (zv 3)))
          (zss_cons (zs_set (i := 1) scCD.nd rfl (Or.inl rfl) (zv 3)) (zss_one (zs_set (i := 3) scCD.nd rfl (Or.inl rfl) (zv 4)))))))))
      (zss_one (zs_ret (zv 1)))), ?_⟩
  refine ⟨_, rfl, a, rfl, ⟨_, hS⟩, for_tup (xs := ns.map V.int) (fun i σ H' => H = H' ∧ ∃ nn o l, σ = [some (.ref a), some (.int (gcdN (ns.take i))), nn, o, l])
    ⟨rfl, _, _, _, rfl⟩ (fun i σ H' _ h => h.1 ▸ hS) (fun i x σ H' hx h => ?_) (fun σ H' h => ?_)⟩
  · obtain ⟨rfl, nn, o, l, rfl⟩ := h
    rw [List.getElem?_map] at hx
    cases hn : ns[i]? with
    | none => rw [hn] at hx; cases hx
    | some n =>
      rw [hn] at hx
      cases hx
      refine ⟨_, rfl, n, rfl, ?_⟩
      have tk : ns.take (i + 1) = ns.take i ++ [n] := by rw [List.take_add_one, hn]; rfl
      refine while_by (fun σ H' => H = H' ∧ ∃ (d o : Int) (l : Option V), 0 ≤ d ∧ 0 ≤ o ∧ Nat.gcd d.toNat o.toNat = gcdN (ns.take (i + 1)) ∧ σ = [some (.ref a), some (.int d), some (.int n), some (.int o), l])
        (fun σ _ => match σ with | [_, _, _, some (.int o), _] => o.toNat | _ => 0) ⟨rfl, _, _, _, by omega, by split <;> omega, ?_, rfl⟩ (fun σ H' h => ?_) (fun σ H Q Q' hq h => ?_)
      · rw [tk, gcdN_snoc]
        congr 1
        split <;> omega
      · obtain ⟨rfl, d, o, l, hd, ho, hg, rfl⟩ := h
        refine ⟨_, rfl, rfl, _, rfl, ?_⟩
        refine ite2 (fun c => ?_) (fun c => ?_)
        · have hne : o ≠ 0 := by
            intro z; subst z; exact absurd c (by decide)
          refine ⟨_, rfl, _, rfl, _, _, rfl, rfl, by omega, _, rfl, _, rfl, ⟨rfl, _, _, _, ho, Int.emod_nonneg _ hne, ?_, rfl⟩, ?_⟩
          · rw [← hg]; exact gcd_step hd (by omega)
          · show (d % o).toNat < o.toNat
            have := Int.emod_lt_of_pos d (show 0 < o by omega)
            have := Int.emod_nonneg d hne
            omega
        · have h0 : o = 0 := by
            by_cases z : o = 0
            · exact z
            · exact absurd (by show (!decide (V.int o = V.int 0)) = true; rw [decide_eq_false (fun e => z (by injection e))]; rfl) c
          subst h0
          refine ⟨rfl, some (.int n), some (.int 0), l, ?_⟩
          have e : (d.toNat : Int) = d := by omega
          rw [← hg]
          simp only [Int.toNat_zero, Nat.gcd_zero_right, e]
      · obtain ⟨v, e1, e2, b, e3, q⟩ := h
        exact ⟨v, e1, e2, b, e3, hq _ _ q⟩
  · obtain ⟨rfl, nn, o, l, rfl⟩ := h
    rw [List.length_map, List.take_length]
    exact ⟨_, rfl, q⟩
theorem scRed : FnScope ["numbers", "divisor"] ["numbers"] (defScope sRed) := ⟨rfl, rfl, rfl, by decide +kernel, rfl, by decide +kernel, by decide +kernel⟩
theorem ok_red (F : Fun K "reduced" "reduced" sRed f fd) (G : FnOk P w K mg base CX0 1 g gd ["numbers"] (spCD K)) (bG : Binds K gd ["numbers"] []) (kG : PySem.W.keepIn K (.ref g) = true) (mG : mg "common_divisor" = some (.ref g)) (mt : mg "tuple" = none) :
    FnOk P w K mg base CX0 2 f fd ["numbers"] (spT K (fun ns => (∃ n ∈ ns, n ≠ 0) ∧ Sm ns) red) := by
  refine F.okZ scRed (fun vs H Q E h => ?_) (fun cdv A outer s H vs Q E hr h => ?_)
  · obtain ⟨a, ns, rfl, _⟩ := h; rfl
  obtain ⟨a, ns, rfl, hS, hl, ⟨hnz, hsm⟩, q⟩ := h
  refine ⟨_, zss_cons (zs_set (i := 1) scRed.nd rfl (Or.inr rfl) (ze_call G hr rfl mG kG bG .nil pass0 (za_cons (zv 0) za_nil)))
    (zss_one (zs_ret (ze_callTy call_tuple_of rfl mt (by rfl) (za_cons (ze_comp (own := ["number"]) scRed rfl ⟨by decide +kernel, rfl, by decide +kernel, by decide +kernel, by decide +kernel, by decide +kernel, by decide +kernel, by decide +kernel, by decide +kernel⟩ (zi_tup (zv 0))
      (fun C fp s H nd => zg_name (i := 0) nd rfl (Or.inl rfl)) (fun C fp s H => zts_nil) (fun C fp s H => ze_op op_fdivB (zv 0) (zv 2))) za_nil)))), ?_⟩
  refine ⟨_, rfl, a, ns, rfl, hS, ?_⟩
  refine ⟨_, rfl, a, rfl, ⟨_, hS⟩, ?_⟩
  have gp := gcdN_pos hnz
  refine comp_tup (K := K) (((red ns).map PySem.W.Dat.int)) hS (by simp [red]) (by rw [List.length_map]; exact Nat.le_of_lt (small1000 hl)) (fun i x H' d hx hd hs => ?_) (fun σ' H2 Q1 Q2 hq h => ?_) (fun D H' ys hs hy hD hf => ?_)
  · rw [List.getElem?_map] at hx hd
    unfold red at hd
    rw [List.getElem?_map] at hd
    cases e : ns[i]? with
    | none => rw [e] at hx; cases hx
    | some n =>
      rw [e] at hx hd
      cases hx; cases hd
      refine ⟨_, rfl, _, rfl, n, _, rfl, rfl, ⟨by omega, gcd_small hnz hsm⟩, Same.refl _, ?_⟩
      dsimp only
      rw [Int.fdiv_eq_ediv_of_nonneg _ (by omega)]
      exact .int _
  · obtain ⟨v1, e1, v2, e2, i, j, e3, e4, e5, q⟩ := h
    exact ⟨v1, e1, v2, e2, i, j, e3, e4, e5, hq _ _ q⟩
  · refine ⟨D, ys, rfl, .inl ⟨SqL.of hy, fun l hl' => ?_⟩⟩
    refine q l _ (hs.trans (Same.new hl' _)) ?_
    rw [Fzs.ints_inv hf]
    exact upd_same
theorem scNeg : FnScope ["numbers"] ["numbers"] (defScope sNeg) := ⟨rfl, rfl, rfl, by decide +kernel, rfl, by decide +kernel, by decide +kernel⟩
theorem ok_neg (F : Fun K "negated" "negated" sNeg f fd) (mt : mg "tuple" = none) : FnOk P w K mg base CX0 1 f fd ["numbers"] (spT K (fun _ => True) (fun ns => ns.map fun n => -n)) := by
  refine F.okZ scNeg (fun vs H Q E h => ?_) (fun cdv A outer s H vs Q E hr h => ?_)
  · obtain ⟨a, ns, rfl, _⟩ := h; rfl
  obtain ⟨a, ns, rfl, hS, hl, _, q⟩ := h
  refine ⟨_, zss_one (zs_ret (ze_callTy call_tuple_of rfl mt (by rfl) (za_cons (ze_comp (own := ["number"]) scNeg rfl ⟨by decide +kernel, rfl, by decide +kernel, by decide +kernel, by decide +kernel, by decide +kernel, by decide +kernel, by decide +kernel, by decide +kernel⟩ (zi_tup (zv 0))
      (fun C fp s H nd => zg_name (i := 0) nd rfl (Or.inl rfl)) (fun C fp s H => zts_nil) (fun C fp s H => ze_un un_neg (zv 0))) za_nil))), ?_⟩
  refine ⟨_, rfl, a, rfl, ⟨_, hS⟩, ?_⟩
  refine comp_tup (K := K) ((ns.map fun n => -n).map PySem.W.Dat.int) hS (by simp) (by rw [List.length_map]; exact Nat.le_of_lt (small1000 hl)) (fun i x H' d hx hd hs => ?_) (fun σ' H2 Q1 Q2 hq h => ?_) (fun D H' ys hs hy hD hf => ?_)
  · rw [List.getElem?_map] at hx hd
    rw [List.getElem?_map] at hd
    cases e : ns[i]? with
    | none => rw [e] at hx; cases hx
    | some n =>
      rw [e] at hx hd
      cases hx; cases hd
      exact ⟨_, rfl, n, rfl, Same.refl _, .int _⟩
  · obtain ⟨v1, e1, i, e3, q⟩ := h
    exact ⟨v1, e1, i, e3, hq _ _ q⟩
  · refine ⟨D, ys, rfl, .inl ⟨SqL.of hy, fun l hl' => ?_⟩⟩
    refine q l _ (hs.trans (Same.new hl' _)) ?_
    rw [Fzs.ints_inv hf]
    exact upd_same
theorem scSopL : FnScope ["one", "other"] ["one", "other"] (defScope sSopL) := ⟨rfl, rfl, rfl, by decide +kernel, rfl, by decide +kernel, by decide +kernel⟩
theorem ok_sopl (F : Fun K "sum_of_products" "sum_of_products" sSopL f fd) (m_sum : mg "sum" = none) (m_zip : mg "zip" = none) :
    FnOk P w K mg base CX0 1 f fd ["one", "other"] (spP K RSopL) := by
  refine okP F scSopL (fun ds d h => ?_) (fun cdv A0 outer s0 H0 E0 hr => ?_)
  · obtain ⟨a, b, c, x, y, z, rfl, _⟩ := h; rfl
  refine ⟨_, (zss_one (zs_ret (ze_callB (call_sumL rfl) rfl m_sum (by rfl) (za_cons (ze_comp (own := ["left", "right"]) scSopL rfl ⟨by decide +kernel, rfl, by decide +kernel, by decide +kernel, by decide +kernel, by decide +kernel, by decide +kernel, by decide +kernel, by decide +kernel⟩ (zi_zipG false true rfl m_zip (za_n (zv 0) (za_n (zv 1) za_nil))) (fun C fp s H nd => zg_pair rfl nd rfl rfl rfl rfl) (fun C fp s H => zts_nil) (fun C fp s H => (ze_op op_mulB (zv 0) (zv 1)))) za_nil)))), fun ds d h => ?_⟩
  obtain ⟨a, b, c, x, y, z, rfl, ba, bb, bc, bx, by', bz, rfl⟩ := h
  exact S.ret1 (s := .dat (.int (sop [a, b, c] [x, y, z]))) (E1.to (E1.su (ns := [a * x, b * y, c * z]) (A1.cons (E1.vwo (E1.compZ3 (x1 := .int a) (x2 := .int b) (x3 := .int c) (y1 := .int x) (y2 := .int y) (y3 := .int z) (Wk.zipG (b1 := false) (b2 := true) (A1.cons (E1.var rfl) (A1.cons (E1.var rfl) A1.nil)) rfl) (E1.mul (E1.var rfl) (E1.var rfl) (ba.mulOk bx)) (E1.mul (E1.var rfl) (E1.var rfl) (bb.mulOk by')) (E1.mul (E1.var rfl) (E1.var rfl) (bc.mulOk bz)))) A1.nil) rfl) (by rw [sop33]; simp; omega)) ⟨rfl, rfl⟩
theorem scInv : FnScope ["number", "modulus", "left", "right", "left_multiple", "right_multiple", "quotient", "remainder", "multiple"] ["number", "modulus"] (defScope sInv) := ⟨rfl, rfl, rfl, by decide +kernel, rfl, by decide +kernel, by decide +kernel⟩
theorem ok_inv (F : Fun K "inverse" "inverse" sInv f fd) :
    FnOk P w K mg base CX0 1 f fd ["number", "modulus"] (spP K RInv) := by
  refine okP F scInv (fun ds d h => ?_) (fun cdv A0 outer s0 H0 E0 hr => ?_)
  · obtain ⟨n, M, r, rfl, _⟩ := h; rfl
  refine ⟨_, (zss_cons (zs_set (i := 2) scInv.nd rfl (Or.inl rfl) (zv 1))
    (zss_cons (zs_set (i := 3) scInv.nd rfl (Or.inl rfl) (ze_op op_mod (zv 0) (zv 1)))
    (zss_cons (zs_set (i := 4) scInv.nd rfl (Or.inl rfl) ze_int)
    (zss_cons (zs_set (i := 5) scInv.nd rfl (Or.inl rfl) ze_int)
    (zss_cons (zs_while PassesOwn.never (zt_cmpR op_ne (zv 3) ze_int (nomark _)) (zss_cons (zs_set (i := 6) scInv.nd rfl (Or.inl rfl) (ze_op op_fdivB (zv 2) (zv 3)))
    (zss_cons (zs_set (i := 7) scInv.nd rfl (Or.inl rfl) (ze_op op_sub (zv 2) (ze_op op_mulB (zv 6) (zv 3))))
    (zss_cons (zs_set (i := 8) scInv.nd rfl (Or.inl rfl) (ze_op op_sub (zv 4) (ze_op op_mulB (zv 6) (zv 5))))
    (zss_cons (zs_set (i := 2) scInv.nd rfl (Or.inl rfl) (zv 3))
    (zss_cons (zs_set (i := 4) scInv.nd rfl (Or.inl rfl) (zv 5))
    (zss_cons (zs_set (i := 3) scInv.nd rfl (Or.inl rfl) (zv 7))
    (zss_one (zs_set (i := 5) scInv.nd rfl (Or.inl rfl) (zv 8))))))))))
    (zss_one (zs_ret (ze_op op_mod (zv 4) (zv 1))))))))), fun ds d h => ?_⟩
  obtain ⟨n, M, r, rfl, hM, bM, hc, hi, rfl⟩ := h
  refine S.let1 (s := .dat (.int M)) (E1.var rfl) ?_
  refine S.let1 (s := .dat (.int (n % M))) (E1.mod (E1.var rfl) (E1.var rfl) hM) ?_
  refine S.let1 (s := .dat (.int 0)) E1.int ?_
  refine S.let1 (s := .dat (.int 1)) E1.int ?_
  refine S.seq (M := fun τ' => ∃ (l p q : Int) (o1 o2 o3 : Sl), InvI M n l 0 p q ∧ τ' = [.dat (.int n), .dat (.int M), .dat (.int l), .dat (.int 0), .dat (.int p), .dat (.int q), o1, o2, o3]) ?_ fun τ' ⟨l, p, q, o1, o2, o3, hI, eτ⟩ => ?_
  · refine S.while (fun m τ' => ∃ (l r p q : Int) (o1 o2 o3 : Sl), InvI M n l r p q ∧ r.toNat = m ∧ τ' = [.dat (.int n), .dat (.int M), .dat (.int l), .dat (.int r), .dat (.int p), .dat (.int q), o1, o2, o3]) (m0 := (n % M).toNat) ⟨M, n % M, 0, 1, _, _, _, InvI.start hM hc, rfl, rfl⟩ (fun m τ1 ⟨l, r, p, q, o1, o2, o3, hI, hm, e1⟩ => ?_)
    subst e1
    refine ⟨fun b => (!decide (r = 0)) = b, T1.test (E1.ne (E1.var rfl) E1.int), fun h => ?_, fun h => ?_⟩
    · have rn : r ≠ 0 := by simpa using h
      have r0 := hI.r0
      have rp : 0 < r := by omega
      obtain ⟨bl, br, bp, bq⟩ := hI.bd rp bM
      have l0 := hI.l0
      have kb : Bt (l / r) 300 := Nat.le_trans (Int.natAbs_ediv_le_natAbs l r) bl
      obtain ⟨hN, hlt⟩ := hI.next rp
      refine S.let1 (s := .dat (.int (l / r))) (E1.to (E1.fdiv (i := l) (j := r) (E1.var rfl) (E1.var rfl) ⟨rn, Bt.log br rn⟩) (by rw [Int.fdiv_eq_ediv_of_nonneg _ r0])) ?_
      refine S.let1 (s := .dat (.int (l - l / r * r))) (E1.sub (E1.var rfl) (E1.mul (E1.var rfl) (E1.var rfl) (kb.mulOk br))) ?_
      refine S.let1 (s := .dat (.int (p - l / r * q))) (E1.sub (E1.var rfl) (E1.mul (E1.var rfl) (E1.var rfl) (kb.mulOk bq))) ?_
      refine S.let1 (s := .dat (.int r)) (E1.var rfl) ?_
      refine S.let1 (s := .dat (.int q)) (E1.var rfl) ?_
      refine S.let1 (s := .dat (.int (l - l / r * r))) (E1.var rfl) ?_
      exact S.asg1 (s := .dat (.int (p - l / r * q))) (E1.var rfl) ⟨_, by rw [← hm]; exact hlt, _, _, _, _, _, _, _, hN, rfl, rfl⟩
    · have r0 : r = 0 := by simpa using h
      subst r0
      exact ⟨_, _, _, _, _, _, hI, rfl⟩
  subst eτ
  have e := inv_one hM hc hi (inv_of hM hI.end)
  rw [e]
  exact S.ret1 (s := .dat (.int (p % M))) (E1.mod (E1.var rfl) (E1.var rfl) hM) ⟨rfl, rfl⟩
theorem scPlain : FnScope ["four", "lowest"] ["four"] (defScope sPlain) := ⟨rfl, rfl, rfl, by decide +kernel, rfl, by decide +kernel, by decide +kernel⟩
theorem ok_plain (F : Fun K "plain" "plain" sPlain f fd) (G : FnOk P w K mg base CX0 2 g gd ["numbers"] (spT K (fun ns => (∃ n ∈ ns, n ≠ 0) ∧ Sm ns) red)) (bG : Binds K gd ["numbers"] []) (kG : PySem.W.keepIn K (.ref g) = true) (mG : mg "reduced" = some (.ref g))
    (G2 : FnOk P w K mg base CX0 1 g2 gd2 ["numbers"] (spT K (fun _ => True) (fun ns => ns.map fun n => -n))) (bG2 : Binds K gd2 ["numbers"] []) (kG2 : PySem.W.keepIn K (.ref g2) = true) (mG2 : mg "negated" = some (.ref g2)) :
    FnOk P w K mg base CX0 3 f fd ["four"] (spT K PlainPre pl) := by
  refine F.okZ scPlain (fun vs H Q E h => ?_) (fun cdv A outer s H vs Q E hr h => ?_)
  · obtain ⟨a, ns, rfl, _⟩ := h; rfl
  obtain ⟨a, ns, rfl, hS, hl, ⟨h4, hnz, hsm⟩, q⟩ := h
  refine ⟨_, zss_cons (zs_set (i := 1) scPlain.nd rfl (Or.inl rfl) (ze_call G hr rfl mG kG bG .nil pass0 (za_cons (zv 0) za_nil)))
    (zss_cons (zs_if (zt_cmpR (op_ltT hr.units0) (zv 1) (ze_tup (za_cons ze_int (za_cons ze_int (za_cons ze_int (za_cons ze_int za_nil))))) (nomark _)) (zss_one (zs_ret (ze_call G2 (hr.mono (by decide)) rfl mG2 kG2 bG2 .nil pass0 (za_cons (zv 1) za_nil)))) zss_nil)
    (zss_one (zs_ret (zv 1)))), ?_⟩
  refine ⟨_, rfl, a, ns, rfl, hS, hl, ⟨hnz, hsm⟩, fun r H1 s1 h1 => ?_⟩
  refine ⟨_, rfl, (by show 4 ≤ sizeLine; decide), fun p hp => ?_⟩
  have s2 : Same H1 (upd H1 p (.tup [.int 0, .int 0, .int 0, .int 0])) := Same.new hp _
  refine ⟨r, p, red ns, [0, 0, 0, 0], rfl, rfl, SqT.of (s2 _ _ h1), SqT.of upd_same, _, rfl, ?_⟩
  have hl4 : (red ns).length = 4 := by unfold red; rw [List.length_map]; exact h4
  have lx : HT.lexLt (red ns) [0, 0, 0, 0] = decide (fst0 (red ns) < 0) := lex_fst0 (n := 4) hl4
  rw [lx]
  have pe := plain_eq hnz
  refine ite2 (fun c => ?_) (fun c => ?_)
  · rw [if_pos (of_decide_eq_true c)] at pe
    refine ⟨_, rfl, r, red ns, rfl, SqT.of (s2 _ _ h1), by omega, trivial, fun r2 H2 s3 h2 => ?_⟩
    exact q r2 H2 (s1.trans (s2.trans s3)) (by rw [← pe]; exact h2)
  · rw [if_neg (fun z => c (decide_eq_true z))] at pe
    exact ⟨_, rfl, q r _ (s1.trans s2) (by rw [← pe]; exact s2 _ _ h1)⟩
theorem scSize : FnScope ["four"] ["four"] (defScope sSize) := ⟨rfl, rfl, rfl, by decide +kernel, rfl, by decide +kernel, by decide +kernel⟩
theorem ok_size (F : Fun K "size" "size" sSize f fd) (G : FnOk P w K mg base CX0 1 g gd ["one", "other"] (spSop K)) (bG : Binds K gd ["one", "other"] []) (kG : PySem.W.keepIn K (.ref g) = true) (mG : mg "sum_of_products" = some (.ref g)) : FnOk P w K mg base CX0 2 f fd ["four"] (spSize K) := by
  refine F.okZ scSize (fun vs H Q E h => ?_) (fun cdv A outer s H vs Q E hr h => ?_)
  · obtain ⟨a, ns, rfl, _⟩ := h; rfl
  obtain ⟨a, ns, rfl, hS, hl, sm, q⟩ := h
  refine ⟨_, zss_one (zs_ret (ze_call G hr rfl mG kG bG .nil pass0 (za_cons (zv 0) (za_cons (zv 0) za_nil)))), ?_⟩
  exact ⟨_, rfl, _, rfl, a, a, ns, ns, rfl, hS, hS, hl, rfl, sm, sm, q⟩
theorem scWT : FnScope ["four", "w", "x", "y", "z"] ["four"] (defScope sWT) := ⟨rfl, rfl, rfl, by decide +kernel, rfl, by decide +kernel, by decide +kernel⟩
theorem ok_wt (F : Fun K "whole_table" "whole_table" sWT f fd) :
    FnOk P w K mg base CX0 1 f fd ["four"] (spWT K) := by
  refine F.okZ scWT (fun vs H Q E h => ?_) (fun cdv A outer s H vs Q E hr h => ?_)
  · obtain ⟨x, a, b, c, d, rfl, _⟩ := h; rfl
  obtain ⟨x, a, b, c, d, rfl, hS, hB, q⟩ := h
  refine ⟨_, (zss_cons (zs_set (i := 1) scWT.nd rfl (Or.inl rfl) (ze_ix ix_tup (zv 0) ze_int (fun _ _ => rfl)) sw_sub)
    (zss_cons (zs_set (i := 2) scWT.nd rfl (Or.inl rfl) (ze_ix ix_tup (zv 0) ze_int (fun _ _ => rfl)) sw_sub)
    (zss_cons (zs_set (i := 3) scWT.nd rfl (Or.inl rfl) (ze_ix ix_tup (zv 0) ze_int (fun _ _ => rfl)) sw_sub)
    (zss_cons (zs_set (i := 4) scWT.nd rfl (Or.inl rfl) (ze_ix ix_tup (zv 0) ze_int (fun _ _ => rfl)) sw_sub)
    (zss_one (zs_ret (ze_tup (za_t (ze_tup (za_b (ze_op op_sub (ze_op op_sub (ze_op op_add (ze_op op_mulB (zv 1) (zv 1)) (ze_op op_mulB (zv 2) (zv 2))) (ze_op op_mulB (zv 3) (zv 3))) (ze_op op_mulB (zv 4) (zv 4))) (za_b (ze_op op_mulB ze_int (ze_op op_sub (ze_op op_mulB (zv 2) (zv 3)) (ze_op op_mulB (zv 1) (zv 4)))) (za_b (ze_op op_mulB ze_int (ze_op op_add (ze_op op_mulB (zv 2) (zv 4)) (ze_op op_mulB (zv 1) (zv 3)))) za_nil)))) (za_t (ze_tup (za_b (ze_op op_mulB ze_int (ze_op op_add (ze_op op_mulB (zv 2) (zv 3)) (ze_op op_mulB (zv 1) (zv 4)))) (za_b (ze_op op_sub (ze_op op_add (ze_op op_sub (ze_op op_mulB (zv 1) (zv 1)) (ze_op op_mulB (zv 2) (zv 2))) (ze_op op_mulB (zv 3) (zv 3))) (ze_op op_mulB (zv 4) (zv 4))) (za_b (ze_op op_mulB ze_int (ze_op op_sub (ze_op op_mulB (zv 3) (zv 4)) (ze_op op_mulB (zv 1) (zv 2)))) za_nil)))) (za_t (ze_tup (za_b (ze_op op_mulB ze_int (ze_op op_sub (ze_op op_mulB (zv 2) (zv 4)) (ze_op op_mulB (zv 1) (zv 3)))) (za_b (ze_op op_mulB ze_int (ze_op op_add (ze_op op_mulB (zv 3) (zv 4)) (ze_op op_mulB (zv 1) (zv 2)))) (za_b (ze_op op_add (ze_op op_sub (ze_op op_sub (ze_op op_mulB (zv 1) (zv 1)) (ze_op op_mulB (zv 2) (zv 2))) (ze_op op_mulB (zv 3) (zv 3))) (ze_op op_mulB (zv 4) (zv 4))) za_nil)))) za_nil)))))))))), ?_⟩
  have ha : Bt a 1000 := hB a (by simp)
  have hb : Bt b 1000 := hB b (by simp)
  have hc : Bt c 1000 := hB c (by simp)
  have hd : Bt d 1000 := hB d (by simp)
  refine ⟨_, rfl, x, _, _, _, rfl, rfl, hS, at40, ?_⟩
  refine ⟨_, rfl, x, _, _, _, rfl, rfl, hS, at41, ?_⟩
  refine ⟨_, rfl, x, _, _, _, rfl, rfl, hS, at42, ?_⟩
  refine ⟨_, rfl, x, _, _, _, rfl, rfl, hS, at43, ?_⟩
  dsimp only [gName]
  show tRet _ _ [some (.ref x), some (.int a), some (.int b), some (.int c), some (.int d)] _
  refine ⟨_, rfl, _, rfl, _, _, rfl, rfl, ha.mulOk ha, _, rfl, _, rfl, _, _, rfl, rfl, hb.mulOk hb, _, _, rfl, rfl, _, rfl, _, rfl, _, _, rfl, rfl, hc.mulOk hc, _, _, rfl, rfl, _, rfl, _, rfl, _, _, rfl, rfl, hd.mulOk hd, _, _, rfl, rfl, _, rfl, _, rfl, _, _, rfl, rfl, hb.mulOk hc, _, rfl, _, rfl, _, _, rfl, rfl, ha.mulOk hd, _, _, rfl, rfl, _, _, rfl, rfl, two1.mulOk ((hb.mul hc).sub (ha.mul hd)), _, rfl, _, rfl, _, _, rfl, rfl, hb.mulOk hd, _, rfl, _, rfl, _, _, rfl, rfl, ha.mulOk hc, _, _, rfl, rfl, _, _, rfl, rfl, two1.mulOk ((hb.mul hd).add (ha.mul hc)), (by show 3 ≤ sizeLine; decide), fun p1 e1 => ?_⟩
  refine ⟨_, rfl, _, rfl, _, _, rfl, rfl, hb.mulOk hc, _, rfl, _, rfl, _, _, rfl, rfl, ha.mulOk hd, _, _, rfl, rfl, _, _, rfl, rfl, two1.mulOk ((hb.mul hc).add (ha.mul hd)), _, rfl, _, rfl, _, _, rfl, rfl, ha.mulOk ha, _, rfl, _, rfl, _, _, rfl, rfl, hb.mulOk hb, _, _, rfl, rfl, _, rfl, _, rfl, _, _, rfl, rfl, hc.mulOk hc, _, _, rfl, rfl, _, rfl, _, rfl, _, _, rfl, rfl, hd.mulOk hd, _, _, rfl, rfl, _, rfl, _, rfl, _, _, rfl, rfl, hc.mulOk hd, _, rfl, _, rfl, _, _, rfl, rfl, ha.mulOk hb, _, _, rfl, rfl, _, _, rfl, rfl, two1.mulOk ((hc.mul hd).sub (ha.mul hb)), (by show 3 ≤ sizeLine; decide), fun p2 e2 => ?_⟩
  refine ⟨_, rfl, _, rfl, _, _, rfl, rfl, hb.mulOk hd, _, rfl, _, rfl, _, _, rfl, rfl, ha.mulOk hc, _, _, rfl, rfl, _, _, rfl, rfl, two1.mulOk ((hb.mul hd).sub (ha.mul hc)), _, rfl, _, rfl, _, _, rfl, rfl, hc.mulOk hd, _, rfl, _, rfl, _, _, rfl, rfl, ha.mulOk hb, _, _, rfl, rfl, _, _, rfl, rfl, two1.mulOk ((hc.mul hd).add (ha.mul hb)), _, rfl, _, rfl, _, _, rfl, rfl, ha.mulOk ha, _, rfl, _, rfl, _, _, rfl, rfl, hb.mulOk hb, _, _, rfl, rfl, _, rfl, _, rfl, _, _, rfl, rfl, hc.mulOk hc, _, _, rfl, rfl, _, rfl, _, rfl, _, _, rfl, rfl, hd.mulOk hd, _, _, rfl, rfl, (by show 3 ≤ sizeLine; decide), fun p3 e3 => ?_⟩
  refine ⟨(by show 3 ≤ sizeLine; decide), fun r e4 => ?_⟩
  have s1 := Same.new e1 (.tup ((rw1 a b c d).map V.int))
  have s2 := Same.new e2 (.tup ((rw2 a b c d).map V.int))
  have s3 := Same.new e3 (.tup ((rw3 a b c d).map V.int))
  have s4 := Same.new e4 (.tup [.ref p1, .ref p2, .ref p3])
  exact q r _ (s1.trans (s2.trans (s3.trans s4))) ⟨p1, p2, p3, upd_same, s4 _ _ (s3 _ _ (s2 _ _ upd_same)), s4 _ _ (s3 _ _ upd_same), s4 _ _ upd_same⟩
theorem scSolved : FnScope ["number", "wanted", "modulus", "divisor", "smaller"] ["number", "wanted", "modulus"] (defScope sSolved) := ⟨rfl, rfl, rfl, by decide +kernel, rfl, by decide +kernel, by decide +kernel⟩
theorem ok_solved (F : Fun K "solved" "solved" sSolved f fd)
    (G : FnOk P w K mg base CX0 1 g gd ["numbers"] (spCD K)) (bG : Binds K gd ["numbers"] []) (kG : PySem.W.keepIn K (.ref g) = true) (mG : mg "common_divisor" = some (.ref g))
    (G2 : FnOk P w K mg base CX0 1 g2 gd2 ["number", "modulus"] (spP K RInv)) (bG2 : Binds K gd2 ["number", "modulus"] []) (kG2 : PySem.W.keepIn K (.ref g2) = true) (mG2 : mg "inverse" = some (.ref g2)) :
    FnOk P w K mg base CX0 2 f fd ["number", "wanted", "modulus"] (spP K RSolved) := by
  refine okP F scSolved (fun ds d h => ?_) (fun cdv A0 outer s0 H0 E0 hr => ?_)
  · obtain ⟨n, w, M, g, s, u, i, rfl, _⟩ := h; rfl
  have r := hr.mono (show 1 ≤ 1 by decide)
  have r2 := hr.mono (show 1 ≤ 1 by decide)
  refine ⟨_, (zss_cons (zs_set (i := 3) scSolved.nd rfl (Or.inl rfl) (ze_call G r rfl mG kG bG .nil pass0 (za_t (ze_tup (za_n (zv 2) (za_n (zv 0) za_nil))) za_nil)))
    (zss_cons (zs_set (i := 4) scSolved.nd rfl (Or.inl rfl) (ze_op op_fdivB (zv 2) (zv 3)))
    (zss_one (zs_ret (ze_op op_mod (ze_op op_mulB (ze_op op_fdivB (zv 1) (zv 3)) (ze_call G2 r2 rfl mG2 kG2 bG2 .nil pass0 (za_b (ze_op op_fdivB (zv 0) (zv 3)) (za_n (zv 4) za_nil)))) (zv 4)))))), fun ds d h => ?_⟩
  obtain ⟨n, w, M, g, s, u, i, rfl, hM, bM, bw, rfl, rfl, rfl, hi, rfl⟩ := h
  have hg := gc_of (v := n) hM
  have g0 := hg.g0
  have s0 := hg.s0
  have bg : Bt (gcdN [M, n] : Int) 300 := by
    have := Int.le_of_dvd hM (gcdN_dvd (ns := [M, n]) (by simp))
    unfold Bt at *
    omega
  have bs : Bt (M / (gcdN [M, n] : Int)) 300 := Nat.le_trans (Int.natAbs_ediv_le_natAbs _ _) bM
  have bwg : Bt (w / (gcdN [M, n] : Int)) 1000 := Nat.le_trans (Int.natAbs_ediv_le_natAbs _ _) bw
  have bi : Bt i 300 := by
    obtain ⟨i0, i1, _⟩ := hi
    unfold Bt at *
    omega
  have cd : ∀ {x : Int}, CDivB x (gcdN [M, n] : Int) := ⟨by omega, Bt.log bg (by omega)⟩
  refine S.let1 (s := .dat (.int (gcdN [M, n]))) (E1.cCD (ns := [M, n]) (by walk_at "au3")) ?_
  generalize (gcdN [M, n] : Int) = G at *
  refine S.let1 (s := .dat (.int (M / G))) (E1.to (E1.fdiv (i := M) (j := G) (E1.var rfl) (E1.var rfl) cd) (by rw [Int.fdiv_eq_ediv_of_nonneg _ (by omega)])) ?_
  exact S.ret1 (s := .dat (.int (w / G * i % (M / G)))) (E1.mod (E1.mul (E1.to (E1.fdiv (i := w) (j := G) (E1.var rfl) (E1.var rfl) cd) (by rw [Int.fdiv_eq_ediv_of_nonneg _ (by omega)])) (E1.call (R := RInv) (ds := [.int (n / G), .int (M / G)]) (A1.cons (E1.to (E1.fdiv (i := n) (j := G) (E1.var rfl) (E1.var rfl) cd) (by rw [Int.fdiv_eq_ediv_of_nonneg _ (by omega)])) (A1.cons (E1.var rfl) A1.nil)) ⟨n / G, M / G, i, rfl, s0, bs, hg.co, hi, rfl⟩) (bwg.mulOk bi)) (E1.var rfl) s0) ⟨rfl, rfl⟩
theorem scDivRows : FnScope ["values", "modulus", "first", "second", "third", "c", "f", "b", "e", "d"] ["values", "modulus"] (defScope sDivRows) := ⟨rfl, rfl, rfl, by decide +kernel, rfl, by decide +kernel, by decide +kernel⟩
theorem ok_divrows (F : Fun K "divided_rows" "divided_rows" sDivRows f fd)
    (G : FnOk P w K mg base CX0 1 g gd ["numbers"] (spCD K)) (bG : Binds K gd ["numbers"] []) (kG : PySem.W.keepIn K (.ref g) = true) (mG : mg "common_divisor" = some (.ref g))
    (G2 : FnOk P w K mg base CX0 2 g2 gd2 ["number", "wanted", "modulus"] (spP K RSolved)) (bG2 : Binds K gd2 ["number", "wanted", "modulus"] []) (kG2 : PySem.W.keepIn K (.ref g2) = true) (mG2 : mg "solved" = some (.ref g2)) :
    FnOk P w K mg base CX0 3 f fd ["values", "modulus"] (spP K RDivR) := by
  refine okP F scDivRows (fun ds d h => ?_) (fun cdv A0 outer s0 H0 E0 hr => ?_)
  · obtain ⟨N, v1, v2, v3, g1, g2, g3, u1, u2, u3, i1, i2, A, B, C, D, E, F, rfl, _⟩ := h; rfl
  have r := hr.mono (show 1 ≤ 2 by decide)
  have r2 := hr.mono (show 2 ≤ 2 by decide)
  refine ⟨_, (zss_cons (zs_set (i := 2) scDivRows.nd rfl (Or.inl rfl) (ze_call G r rfl mG kG bG .nil pass0 (za_t (ze_tup (za_n (zv 1) (za_s (ze_ix ix_list (zv 0) ze_int (fun _ _ => rfl)) za_nil))) za_nil)))
    (zss_cons (zs_set (i := 3) scDivRows.nd rfl (Or.inl rfl) (ze_call G r rfl mG kG bG .nil pass0 (za_t (ze_tup (za_n (zv 2) (za_s (ze_ix ix_list (zv 0) ze_int (fun _ _ => rfl)) za_nil))) za_nil)))
    (zss_cons (zs_set (i := 4) scDivRows.nd rfl (Or.inl rfl) (ze_call G r rfl mG kG bG .nil pass0 (za_t (ze_tup (za_n (zv 3) (za_s (ze_ix ix_list (zv 0) ze_int (fun _ _ => rfl)) za_nil))) za_nil)))
    (zss_cons (zs_set (i := 5) scDivRows.nd rfl (Or.inl rfl) (ze_op op_fdivB (zv 2) (zv 3)))
    (zss_cons (zs_set (i := 6) scDivRows.nd rfl (Or.inl rfl) (ze_op op_fdivB (zv 3) (zv 4)))
    (zss_cons (zs_set (i := 7) scDivRows.nd rfl (Or.inl rfl) (ze_call G2 r2 rfl mG2 kG2 bG2 .nil pass0 (za_s (ze_ix ix_list (zv 0) ze_int (fun _ _ => rfl)) (za_b (ze_op op_mulB (ze_un un_neg (ze_ix ix_list (zv 0) ze_int (fun _ _ => rfl))) (zv 5)) (za_n (zv 1) za_nil)))))
    (zss_cons (zs_set (i := 8) scDivRows.nd rfl (Or.inl rfl) (ze_call G2 r2 rfl mG2 kG2 bG2 .nil pass0 (za_s (ze_ix ix_list (zv 0) ze_int (fun _ _ => rfl)) (za_b (ze_op op_mulB (ze_un un_neg (ze_ix ix_list (zv 0) ze_int (fun _ _ => rfl))) (zv 6)) (za_n (zv 2) za_nil)))))
    (zss_cons (zs_set (i := 9) scDivRows.nd rfl (Or.inl rfl) (ze_call G2 r2 rfl mG2 kG2 bG2 .nil pass0 (za_s (ze_ix ix_list (zv 0) ze_int (fun _ _ => rfl)) (za_b (ze_op op_sub (ze_op op_mulB (ze_un un_neg (ze_ix ix_list (zv 0) ze_int (fun _ _ => rfl))) (zv 8)) (ze_op op_mulB (ze_ix ix_list (zv 0) ze_int (fun _ _ => rfl)) (zv 6))) (za_n (zv 1) za_nil)))))
    (zss_one (zs_ret (ze_tup (za_t (ze_tup (za_b (ze_op op_fdivB (zv 1) (zv 2)) (za_i (za_i za_nil)))) (za_t (ze_tup (za_n (zv 7) (za_n (zv 5) (za_i za_nil)))) (za_t (ze_tup (za_n (zv 9) (za_n (zv 8) (za_n (zv 6) za_nil)))) za_nil)))))))))))))), fun ds d h => ?_⟩
  obtain ⟨N, v1, v2, v3, g1, g2, g3, u1, u2, u3, i1, i2, aa, bb, cc, dd, ee, ff, rfl, hN, bN, b1, b2, b3, hd, rfl⟩ := h
  obtain ⟨c1, c2, c3⟩ := hd.gcs hN
  obtain ⟨k1, k2, k3, _⟩ := hd.facts hN
  obtain ⟨x1, x2, x3, x4, x5, y0, y1, y2, y3, y4, y5⟩ := hd.le hN
  have q1 := c1.g0
  have q2 := c2.g0
  have q3 := c3.g0
  have q4 := c1.s0
  have q5 := c2.s0
  have q6 := c3.s0
  have up : ∀ {t : Int}, 0 ≤ t → t ≤ N → Bt t 300 := fun h1 h2 => by unfold Bt at *; omega
  have bg1 := up (Int.le_of_lt q1) x1
  have bg2 := up (Int.le_of_lt q2) x2
  have bg3 : Bt g3 300 := up (Int.le_of_lt q3) (by have := Int.le_of_dvd q2 ⟨ff, by rw [c3.hn, Int.mul_comm]⟩; omega)
  have bC := up (Int.le_of_lt q5) x4
  have bF := up (Int.le_of_lt q6) x5
  have bE := up y4 y5
  obtain ⟨h1, h2, h3, h4, h5, h6, h7, h8, h9, hi1, hi2, hB, hE, hD⟩ := hd
  have cd : ∀ {t x : Int}, 0 < t → Bt t 300 → CDivB x t := fun h0 hb => ⟨by omega, Bt.log hb (by omega)⟩
  have fd : ∀ {t x : Int}, 0 < t → x.fdiv t = x / t := fun h0 => Int.fdiv_eq_ediv_of_nonneg _ (by omega)
  refine S.let1 (s := .dat (.int g1)) (E1.to (E1.cCD (ns := [N, v1]) (A1.cons (E1.tu (A1.cons (E1.var rfl) (A1.cons (E1.ixL (ds := [.int v1, .int v2, .int v3]) (E1.varL rfl) E1.int rfl) A1.nil)) rfl (lsz (n := 2) rfl z2)) A1.nil)) (congrArg (fun t => Sl.dat (.int t)) h1.symm)) ?_
  refine S.let1 (s := .dat (.int g2)) (E1.to (E1.cCD (ns := [g1, v2]) (A1.cons (E1.tu (A1.cons (E1.var rfl) (A1.cons (E1.ixL (ds := [.int v1, .int v2, .int v3]) (E1.varL rfl) E1.int rfl) A1.nil)) rfl (lsz (n := 2) rfl z2)) A1.nil)) (congrArg (fun t => Sl.dat (.int t)) h4.symm)) ?_
  refine S.let1 (s := .dat (.int g3)) (E1.to (E1.cCD (ns := [g2, v3]) (A1.cons (E1.tu (A1.cons (E1.var rfl) (A1.cons (E1.ixL (ds := [.int v1, .int v2, .int v3]) (E1.varL rfl) E1.int rfl) A1.nil)) rfl (lsz (n := 2) rfl z2)) A1.nil)) (congrArg (fun t => Sl.dat (.int t)) h7.symm)) ?_
  refine S.let1 (s := .dat (.int cc)) (E1.to (E1.fdiv (i := g1) (j := g2) (E1.var rfl) (E1.var rfl) (cd q2 bg2)) (by rw [fd q2, h5])) ?_
  refine S.let1 (s := .dat (.int ff)) (E1.to (E1.fdiv (i := g2) (j := g3) (E1.var rfl) (E1.var rfl) (cd q3 bg3)) (by rw [fd q3, h8])) ?_
  have n2 := Bt.neg' b2
  have n3 := Bt.neg' b3
  refine S.let1 (s := .dat (.int bb)) (E1.to (E1.call (R := RSolved) (ds := [.int v1, .int (-v2 * cc), .int N]) (A1.cons (E1.ixL (ds := [.int v1, .int v2, .int v3]) (E1.varL rfl) E1.int rfl) (A1.cons (E1.mul (E1.neg (E1.ixL (ds := [.int v1, .int v2, .int v3]) (E1.varL rfl) E1.int rfl)) (E1.var rfl) (n2.mulOk bC)) (A1.cons (E1.var rfl) A1.nil))) ⟨v1, -v2 * cc, N, g1, aa, u1, i1, rfl, hN, bN, (n2.mul bC).up (by decide), h1, h2, h3, hi1, rfl⟩) (congrArg (fun t => Sl.dat (.int t)) hB.symm)) ?_
  refine S.let1 (s := .dat (.int ee)) (E1.to (E1.call (R := RSolved) (ds := [.int v2, .int (-v3 * ff), .int g1]) (A1.cons (E1.ixL (ds := [.int v1, .int v2, .int v3]) (E1.varL rfl) E1.int rfl) (A1.cons (E1.mul (E1.neg (E1.ixL (ds := [.int v1, .int v2, .int v3]) (E1.varL rfl) E1.int rfl)) (E1.var rfl) (n3.mulOk bF)) (A1.cons (E1.var rfl) A1.nil))) ⟨v2, -v3 * ff, g1, g2, cc, u2, i2, rfl, q1, bg1, (n3.mul bF).up (by decide), h4, h5, h6, hi2, rfl⟩) (congrArg (fun t => Sl.dat (.int t)) hE.symm)) ?_
  refine S.let1 (s := .dat (.int dd)) (E1.to (E1.call (R := RSolved) (ds := [.int v1, .int (-v2 * ee - v3 * ff), .int N]) (A1.cons (E1.ixL (ds := [.int v1, .int v2, .int v3]) (E1.varL rfl) E1.int rfl) (A1.cons (E1.sub (E1.mul (E1.neg (E1.ixL (ds := [.int v1, .int v2, .int v3]) (E1.varL rfl) E1.int rfl)) (E1.var rfl) (n2.mulOk bE)) (E1.mul (E1.ixL (ds := [.int v1, .int v2, .int v3]) (E1.varL rfl) E1.int rfl) (E1.var rfl) (b3.mulOk bF))) (A1.cons (E1.var rfl) A1.nil))) ⟨v1, -v2 * ee - v3 * ff, N, g1, aa, u1, i1, rfl, hN, bN, (Bt.sub' (n2.mul bE) (b3.mul bF)).up (by decide), h1, h2, h3, hi1, rfl⟩) (congrArg (fun t => Sl.dat (.int t)) hD.symm)) ?_
  have fA : E1 none K (tOp (rI CDivB fun i j => .int (i.fdiv j)) (tVar 1) (tVar 2)) [.dat (.list [.int v1, .int v2, .int v3]), .dat (.int N), .dat (.int g1), .dat (.int g2), .dat (.int g3), .dat (.int cc), .dat (.int ff), .dat (.int bb), .dat (.int ee), .dat (.int dd)] (.dat (.int aa)) := E1.to (E1.fdiv (i := N) (j := g1) (E1.var rfl) (E1.var rfl) (cd q1 bg1)) (by rw [fd q1, h2])
  exact S.ret1 (s := .dat (r3D aa bb cc dd ee ff)) (E1.tu (A1.cons (E1.tu (A1.cons fA (A1.cons E1.int (A1.cons E1.int A1.nil))) rfl (lsz (n := 3) rfl z3)) (A1.cons (E1.tu (A1.cons (E1.var rfl) (A1.cons (E1.var rfl) (A1.cons E1.int A1.nil))) rfl (lsz (n := 3) rfl z3)) (A1.cons (E1.tu (A1.cons (E1.var rfl) (A1.cons (E1.var rfl) (A1.cons (E1.var rfl) A1.nil))) rfl (lsz (n := 3) rfl z3)) A1.nil))) rfl (lsz (n := 3) rfl z3)) ⟨rfl, rfl⟩
theorem scSummed : FnScope ["multiples", "rows"] ["multiples", "rows"] (defScope sSummed) := ⟨rfl, rfl, rfl, by decide +kernel, rfl, by decide +kernel, by decide +kernel⟩
theorem ok_summed (F : Fun K "summed" "summed" sSummed f fd)
    (G : FnOk P w K mg base CX0 1 g gd ["one", "other"] (spP K RSopL)) (bG : Binds K gd ["one", "other"] []) (kG : PySem.W.keepIn K (.ref g) = true) (mG : mg "sum_of_products" = some (.ref g)) (m_tuple : mg "tuple" = none) :
    FnOk P w K mg base CX0 2 f fd ["multiples", "rows"] (spP K RSummed) := by
  refine okP F scSummed (fun ds d h => ?_) (fun cdv A0 outer s0 H0 E0 hr => ?_)
  · obtain ⟨m1, m2, m3, a, b, c, d', e, f, rfl, _⟩ := h; rfl
  have r := hr.mono (show 1 ≤ 1 by decide)
  refine ⟨_, (zss_one (zs_ret (ze_callTy call_tuple_of rfl m_tuple (by rfl) (za_cons (ze_compK (x := "place") scSummed rfl ⟨by decide +kernel, rfl, rfl, by decide +kernel, by decide +kernel, by decide +kernel, by decide +kernel, by decide +kernel, by decide +kernel⟩ (zi_tup (ze_tup (za_i (za_i (za_i za_nil))))) (fun C fp s H nd => zg_name (i := 0) nd rfl (Or.inr rfl)) (fun C fp s H => zts_nil) (fun C fp s H => (ze_call G r rfl mG kG bG .nil pass0 (za_n (zv 1) (za_cons (ze_compNK (own2 := ["row"]) scSummed rfl ⟨by decide +kernel, rfl, by decide +kernel, by decide +kernel, by decide +kernel, by decide +kernel, by decide +kernel, by decide +kernel, by decide +kernel⟩ (zi_tupK (zv 2)) (fun C fp s H nd => zg_name (i := 0) nd rfl (Or.inl rfl)) (fun C fp s H => zts_nil) (fun C fp s H => (ze_ix ix_tupKC (zv 0) (zv 1) (fun _ _ => rfl)))) za_nil))))) za_nil)))), fun ds d h => ?_⟩
  obtain ⟨m1, m2, m3, a, b, c, d', e, f, rfl, b1, b2, b3, ba, bb, bc, bd, be, bf, rfl⟩ := h
  exact S.ret1 (s := .dat (tI [sop [m1, m2, m3] [a, b, d'], sop [m1, m2, m3] [0, c, e], sop [m1, m2, m3] [0, 0, f]])) (E1.tupleL (A1.cons (E1.vwo (E1.comp3 (d1 := .int 0) (d2 := .int 1) (d3 := .int 2) (Wk.tup (by walk_at "au3")) (E1.call (R := RSopL) (ds := [tI [m1, m2, m3], .list [.int a, .int b, .int d']]) (A1.cons (E1.var rfl) (A1.cons (E1.frz (E1.comp3 (d1 := tI [a, 0, 0]) (d2 := tI [b, c, 0]) (d3 := tI [d', e, f]) (Wk.tup (E1.var rfl)) (E1.ixT (E1.var rfl) (E1.var rfl) rfl) (E1.ixT (E1.var rfl) (E1.var rfl) rfl) (E1.ixT (E1.var rfl) (E1.var rfl) rfl))) A1.nil)) ⟨m1, m2, m3, a, b, d', rfl, b1, b2, b3, ba, bb, bd, rfl⟩) (E1.call (R := RSopL) (ds := [tI [m1, m2, m3], .list [.int 0, .int c, .int e]]) (A1.cons (E1.var rfl) (A1.cons (E1.frz (E1.comp3 (d1 := tI [a, 0, 0]) (d2 := tI [b, c, 0]) (d3 := tI [d', e, f]) (Wk.tup (E1.var rfl)) (E1.ixT (E1.var rfl) (E1.var rfl) rfl) (E1.ixT (E1.var rfl) (E1.var rfl) rfl) (E1.ixT (E1.var rfl) (E1.var rfl) rfl))) A1.nil)) ⟨m1, m2, m3, 0, c, e, rfl, b1, b2, b3, (show Bt 0 8000 from Nat.zero_le _), bc, be, rfl⟩) (E1.call (R := RSopL) (ds := [tI [m1, m2, m3], .list [.int 0, .int 0, .int f]]) (A1.cons (E1.var rfl) (A1.cons (E1.frz (E1.comp3 (d1 := tI [a, 0, 0]) (d2 := tI [b, c, 0]) (d3 := tI [d', e, f]) (Wk.tup (E1.var rfl)) (E1.ixT (E1.var rfl) (E1.var rfl) rfl) (E1.ixT (E1.var rfl) (E1.var rfl) rfl) (E1.ixT (E1.var rfl) (E1.var rfl) rfl))) A1.nil)) ⟨m1, m2, m3, 0, 0, f, rfl, b1, b2, b3, (show Bt 0 8000 from Nat.zero_le _), (show Bt 0 8000 from Nat.zero_le _), bf, rfl⟩))) A1.nil)) ⟨rfl, rfl⟩
theorem scTidied : FnScope ["rows", "a", "c", "b", "often", "d"] ["rows"] (defScope sTidied) := ⟨rfl, rfl, rfl, by decide +kernel, rfl, by decide +kernel, by decide +kernel⟩
theorem ok_tidied (F : Fun K "tidied" "tidied" sTidied f fd) :
    FnOk P w K mg base CX0 1 f fd ["rows"] (spP K RTidy) := by
  refine okP F scTidied (fun ds d h => ?_) (fun cdv A0 outer s0 H0 E0 hr => ?_)
  · obtain ⟨a, b, c, d, e, f, rfl, _⟩ := h; rfl
  refine ⟨_, (zss_cons (zs_set (i := 1) scTidied.nd rfl (Or.inl rfl) (ze_ix ix_tup (ze_ix ix_list (zv 0) ze_int (fun _ _ => rfl)) ze_int (fun _ _ => rfl)) sw_sub)
    (zss_cons (zs_set (i := 2) scTidied.nd rfl (Or.inl rfl) (ze_ix ix_tup (ze_ix ix_list (zv 0) ze_int (fun _ _ => rfl)) ze_int (fun _ _ => rfl)) sw_sub)
    (zss_cons (zs_set (i := 3) scTidied.nd rfl (Or.inl rfl) (ze_op op_mod (ze_ix ix_tup (ze_ix ix_list (zv 0) ze_int (fun _ _ => rfl)) ze_int (fun _ _ => rfl)) (zv 1)))
    (zss_cons (zs_set (i := 4) scTidied.nd rfl (Or.inl rfl) (ze_op op_fdivB (ze_ix ix_tup (ze_ix ix_list (zv 0) ze_int (fun _ _ => rfl)) ze_int (fun _ _ => rfl)) (zv 2)))
    (zss_cons (zs_set (i := 5) scTidied.nd rfl (Or.inl rfl) (ze_op op_mod (ze_op op_sub (ze_ix ix_tup (ze_ix ix_list (zv 0) ze_int (fun _ _ => rfl)) ze_int (fun _ _ => rfl)) (ze_op op_mulB (zv 4) (zv 3))) (zv 1)))
    (zss_one (zs_ret (ze_tup (za_s (ze_ix ix_list (zv 0) ze_int (fun _ _ => rfl)) (za_t (ze_tup (za_n (zv 3) (za_n (zv 2) (za_i za_nil)))) (za_t (ze_tup (za_n (zv 5) (za_b (ze_op op_sub (ze_ix ix_tup (ze_ix ix_list (zv 0) ze_int (fun _ _ => rfl)) ze_int (fun _ _ => rfl)) (ze_op op_mulB (zv 4) (zv 2))) (za_s (ze_ix ix_tup (ze_ix ix_list (zv 0) ze_int (fun _ _ => rfl)) ze_int (fun _ _ => rfl)) za_nil)))) za_nil))))))))))), fun ds d h => ?_⟩
  obtain ⟨a, b, c, d, e, f, rfl, ha, hc, ba, bc, be, rfl⟩ := h
  have bq : Bt (e / c) 8400 := Nat.le_trans (Int.natAbs_ediv_le_natAbs e c) be
  have bb : Bt (b % a) 8400 := by
    have h0 := Int.emod_nonneg b (show a ≠ 0 by omega)
    have h1 := Int.emod_lt_of_pos b ha
    unfold Bt at *
    omega
  refine S.let1 (s := .dat (.int a)) (E1.ixT (E1.ixL (ds := [tI [a, 0, 0], tI [b, c, 0], tI [d, e, f]]) (E1.varL rfl) E1.int rfl) E1.int rfl) ?_
  refine S.let1 (s := .dat (.int c)) (E1.ixT (E1.ixL (ds := [tI [a, 0, 0], tI [b, c, 0], tI [d, e, f]]) (E1.varL rfl) E1.int rfl) E1.int rfl) ?_
  refine S.let1 (s := .dat (.int (b % a))) (E1.mod (E1.ixT (E1.ixL (ds := [tI [a, 0, 0], tI [b, c, 0], tI [d, e, f]]) (E1.varL rfl) E1.int rfl) E1.int rfl) (E1.var rfl) ha) ?_
  refine S.let1 (s := .dat (.int (e / c))) (E1.to (E1.fdiv (i := e) (j := c) (E1.ixT (E1.ixL (ds := [tI [a, 0, 0], tI [b, c, 0], tI [d, e, f]]) (E1.varL rfl) E1.int rfl) E1.int rfl) (E1.var rfl) ⟨by omega, Bt.log bc (by omega)⟩) (by rw [Int.fdiv_eq_ediv_of_nonneg _ (by omega)])) ?_
  refine S.let1 (s := .dat (.int ((d - e / c * (b % a)) % a))) (E1.mod (E1.sub (E1.ixT (E1.ixL (ds := [tI [a, 0, 0], tI [b, c, 0], tI [d, e, f]]) (E1.varL rfl) E1.int rfl) E1.int rfl) (E1.mul (E1.var rfl) (E1.var rfl) (bq.mulOk bb))) (E1.var rfl) ha) ?_
  exact S.ret1 (s := .dat (tidD a b c d e f)) (E1.tu (A1.cons (E1.ixL (ds := [tI [a, 0, 0], tI [b, c, 0], tI [d, e, f]]) (E1.varL rfl) E1.int rfl) (A1.cons (E1.tu (A1.cons (E1.var rfl) (A1.cons (E1.var rfl) (A1.cons E1.int A1.nil))) rfl (lsz (n := 3) rfl z3)) (A1.cons (E1.tu (A1.cons (E1.var rfl) (A1.cons (E1.sub (E1.ixT (E1.ixL (ds := [tI [a, 0, 0], tI [b, c, 0], tI [d, e, f]]) (E1.varL rfl) E1.int rfl) E1.int rfl) (E1.mul (E1.var rfl) (E1.var rfl) (bq.mulOk bc))) (A1.cons (E1.ixT (E1.ixL (ds := [tI [a, 0, 0], tI [b, c, 0], tI [d, e, f]]) (E1.varL rfl) E1.int rfl) E1.int rfl) A1.nil))) rfl (lsz (n := 3) rfl z3)) A1.nil))) rfl (lsz (n := 3) rfl z3)) ⟨rfl, rfl⟩
theorem scKeptRows : FnScope ["fours", "rows", "four", "lowest", "bottom", "line", "values"] ["fours"] (defScope sKeptRows) := ⟨rfl, rfl, rfl, by decide +kernel, rfl, by decide +kernel, by decide +kernel⟩
theorem ok_keptrows (F : Fun K "kept_rows" "kept_rows" sKeptRows f fd)
    (G : FnOk P w K mg base CX0 3 g gd ["four"] (spT K PlainPre pl)) (bG : Binds K gd ["four"] []) (kG : PySem.W.keepIn K (.ref g) = true) (mG : mg "plain" = some (.ref g))
    (G2 : FnOk P w K mg base CX0 2 g2 gd2 ["four"] (spSize K)) (bG2 : Binds K gd2 ["four"] []) (kG2 : PySem.W.keepIn K (.ref g2) = true) (mG2 : mg "size" = some (.ref g2))
    (G3 : FnOk P w K mg base CX0 1 g3 gd3 ["four"] (spWT K)) (bG3 : Binds K gd3 ["four"] []) (kG3 : PySem.W.keepIn K (.ref g3) = true) (mG3 : mg "whole_table" = some (.ref g3))
    (G4 : FnOk P w K mg base CX0 1 g4 gd4 ["one", "other"] (spSop K)) (bG4 : Binds K gd4 ["one", "other"] []) (kG4 : PySem.W.keepIn K (.ref g4) = true) (mG4 : mg "sum_of_products" = some (.ref g4))
    (G5 : FnOk P w K mg base CX0 1 g5 gd5 ["rows"] (spP K RTidy)) (bG5 : Binds K gd5 ["rows"] []) (kG5 : PySem.W.keepIn K (.ref g5) = true) (mG5 : mg "tidied" = some (.ref g5))
    (G6 : FnOk P w K mg base CX0 3 g6 gd6 ["values", "modulus"] (spP K RDivR)) (bG6 : Binds K gd6 ["values", "modulus"] []) (kG6 : PySem.W.keepIn K (.ref g6) = true) (mG6 : mg "divided_rows" = some (.ref g6))
    (G7 : FnOk P w K mg base CX0 2 g7 gd7 ["multiples", "rows"] (spP K RSummed)) (bG7 : Binds K gd7 ["multiples", "rows"] []) (kG7 : PySem.W.keepIn K (.ref g7) = true) (mG7 : mg "summed" = some (.ref g7)) (m_UNITS : mg "UNITS" = some (.ref dUNITS)) (t_UNITS : TupTT K dUNITS units) :
    FnOk P w K mg base CX0 4 f fd ["fours"] (spP K RKeptR) := by
  refine okP F scKeptRows (fun ds d h => ?_) (fun cdv A0 outer s0 H0 E0 hr => ?_)
  · obtain ⟨fs, a, b, c, d, e, f, rfl, _⟩ := h; rfl
  have r := hr.mono (show 3 ≤ 3 by decide)
  have r2 := hr.mono (show 2 ≤ 3 by decide)
  have r3 := hr.mono (show 1 ≤ 3 by decide)
  have r4 := hr.mono (show 1 ≤ 3 by decide)
  have r5 := hr.mono (show 1 ≤ 3 by decide)
  have r6 := hr.mono (show 3 ≤ 3 by decide)
  have r7 := hr.mono (show 2 ≤ 3 by decide)
  refine ⟨_, (zss_cons (zs_set (i := 1) scKeptRows.nd rfl (Or.inr rfl) (ze_glob (v := .ref dUNITS) rfl m_UNITS rfl))
    (zss_cons (zs_for PassesOwn.never rfl (zi_list (zv 0)) (zg_name (i := 2) scKeptRows.nd rfl (Or.inl rfl)) (zss_cons (zs_set (i := 3) scKeptRows.nd rfl (Or.inl rfl) (ze_call G r rfl mG kG bG .nil pass0 (za_n (zv 2) za_nil)))
    (zss_cons (zs_set (i := 4) scKeptRows.nd rfl (Or.inr rfl) (ze_call G2 r2 rfl mG2 kG2 bG2 .nil pass0 (za_n (zv 3) za_nil)))
    (zss_one (zs_for PassesOwn.never rfl (zi_tup (ze_call G3 r3 rfl mG3 kG3 bG3 .nil pass0 (za_n (zv 3) za_nil))) (zg_name (i := 5) scKeptRows.nd rfl (Or.inr rfl)) (zss_cons (zs_comp (i := 6) (own := ["row"]) scKeptRows rfl ⟨by decide +kernel, rfl, by decide +kernel, by decide +kernel, by decide +kernel, by decide +kernel, by decide +kernel, by decide +kernel, by decide +kernel⟩ (zi_tup (zv 1)) (fun C fp s H nd => zg_name (i := 0) nd rfl (Or.inl rfl)) (fun C fp s H => zts_nil) (fun C fp s H => (ze_op op_mod (ze_call G4 r4 rfl mG4 kG4 bG4 .nil pass0 (za_n (zv 6) (za_n (zv 0) za_nil))) (zv 5))) scKeptRows.nd rfl (Or.inl rfl) rfl)
    (zss_one (zs_set (i := 1) scKeptRows.nd rfl (Or.inr rfl) (ze_call G5 r5 rfl mG5 kG5 bG5 .nil pass0 (za_cons (ze_comp (own := ["multiples"]) scKeptRows rfl ⟨by decide +kernel, rfl, by decide +kernel, by decide +kernel, by decide +kernel, by decide +kernel, by decide +kernel, by decide +kernel, by decide +kernel⟩ (zi_tup (ze_call G6 r6 rfl mG6 kG6 bG6 .nil pass0 (za_n (zv 6) (za_n (zv 4) za_nil)))) (fun C fp s H nd => zg_name (i := 0) nd rfl (Or.inl rfl)) (fun C fp s H => zts_nil) (fun C fp s H => (ze_call G7 r7 rfl mG7 kG7 bG7 .nil pass0 (za_n (zv 0) (za_n (zv 2) za_nil))))) za_nil))))))))))
    (zss_one (zs_ret (zv 1))))), fun ds d h => ?_⟩
  obtain ⟨fs, a0, b0, c0, d0, e0, f0, rfl, hF, h5, hR, rfl⟩ := h
  refine S.let1 (s := .dat (r3D 1 0 1 0 0 1)) (E1.gTT t_UNITS) ?_
  refine S.seq (M := fun τ' => ∃ (a b c d e f : Int) (o1 o2 o3 o4 o5 : Sl), KSt (KptA fs) 3001 a b c d e f ∧ τ' = [.dat (.list (fs.map tI)), .dat (r3D a b c d e f), o1, o2, o3, o4, o5]) ?_ fun τ' ⟨a, b, c, d, e, f, o1, o2, o3, o4, o5, hk, eτ⟩ => ?_
  · refine S.for (Wk.lst (E1.var rfl)) (fun k τ' => ∃ (a b c d e f : Int) (o1 o2 o3 o4 o5 : Sl), KSt (KptA (fs.take k)) (600 * k + 1) a b c d e f ∧ τ' = [.dat (.list (fs.map tI)), .dat (r3D a b c d e f), o1, o2, o3, o4, o5]) ⟨1, 0, 1, 0, 0, 1, _, _, _, _, _, KSt.start, rfl⟩ (fun k dd τ1 hd ⟨a, b, c, d, e, f, o1, o2, o3, o4, o5, hk, e1⟩ => ?_) (fun τ1 ⟨a, b, c, d, e, f, o1, o2, o3, o4, o5, hk, e1⟩ => ⟨a, b, c, d, e, f, o1, o2, o3, o4, o5, hk.to (fun x y z => by rw [List.length_map, List.take_length]) (by rw [List.length_map]; omega), e1⟩)
    subst e1
    rw [List.getElem?_map] at hd
    obtain ⟨F, hk1, rfl⟩ := Option.map_eq_some_iff.mp hd
    have kl : k < 5 := by have := (List.getElem?_eq_some_iff.mp hk1).1; omega
    obtain ⟨lF, nF, bF⟩ := hF F (List.mem_of_getElem? hk1)
    obtain ⟨p, q, r, s, ep, hN⟩ := pl_size lF nF
    have bp : Bd (2 ^ 97) [p, q, r, s] := ep ▸ bd_pl nF bF
    have bN : Bt (sop [p, q, r, s] [p, q, r, s]) 200 := (bt_n4 bp).up (by decide)
    obtain ⟨w1, w2, w3⟩ := bt_rows bp
    refine ⟨_, Gd.name rfl, ?_⟩
    refine S.let1 (s := .dat (tI [p, q, r, s])) (E1.to (E1.cT (ns := F) (A1.cons (E1.var rfl) A1.nil) (by omega) ⟨lF, nF, sm_bd' bF⟩) (by rw [ep])) ?_
    refine S.let1 (s := .dat (.int (sop [p, q, r, s] [p, q, r, s]))) (E1.cSize (ns := [p, q, r, s]) (A1.cons (E1.var rfl) A1.nil) (by show 4 ≤ 1000; decide) (sm_bd' bp)) ?_
    have kf := fun B a b c d e f => KSt.four (fs := fs) (k := k) (B := B) (a := a) (b := b) (c := c) (d := d) (e := e) (f := f) hk1 ep
    generalize eN : sop [p, q, r, s] [p, q, r, s] = N at *
    refine S.for (Wk.tup (E1.cWT (a := p) (b := q) (c := r) (d := s) (A1.cons (E1.var rfl) A1.nil) (bd_mono bp (by decide)))) (fun j τ' => ∃ (a b c d e f : Int) (o4 o5 : Sl), KSt (KL (KptA (fs.take k)) N [rw1 p q r s, rw2 p q r s, rw3 p q r s] j) (600 * k + 1 + 200 * j) a b c d e f ∧ τ' = [.dat (.list (fs.map tI)), .dat (r3D a b c d e f), .dat (tI F), .dat (tI [p, q, r, s]), .dat (.int N), o4, o5]) ⟨a, b, c, d, e, f, _, _, hk.to (fun x y z => ⟨fun h => ⟨h, fun L hL => by simp at hL⟩, fun h => h.1⟩) (Nat.le_refl _), rfl⟩ (fun j dd τ1 hd ⟨a, b, c, d, e, f, o4, o5, hk, e1⟩ => ?_) (fun τ1 ⟨a, b, c, d, e, f, o4, o5, hk, e1⟩ => ⟨a, b, c, d, e, f, _, _, _, o4, o5, (kf _ _ _ _ _ _ _ hk).to (fun x y z => Iff.rfl) (by show 600 * k + 1 + 200 * 3 ≤ 600 * (k + 1) + 1; omega), e1⟩)
    subst e1
    have hj : j < 3 := (List.getElem?_eq_some_iff.mp hd).1
    have hL : ∃ l1 l2 l3, [rw1 p q r s, rw2 p q r s, rw3 p q r s][j]? = some [l1, l2, l3] ∧ dd = tI [l1, l2, l3] ∧ Bd (2 ^ 197) [l1, l2, l3] := by
      match j, hj, hd with
      | 0, _, hd => cases hd; exact ⟨_, _, _, rfl, rfl, w1⟩
      | 1, _, hd => cases hd; exact ⟨_, _, _, rfl, rfl, w2⟩
      | 2, _, hd => cases hd; exact ⟨_, _, _, rfl, rfl, w3⟩
    obtain ⟨l1, l2, l3, hL, rfl, bL⟩ := hL
    clear hd w1 w2 w3 kf
    obtain ⟨m1, m2, m3⟩ := hk.smL (by omega)
    obtain ⟨x1, x2, x3, x4, x5, x6⟩ := hk.all
    obtain ⟨g1, g2, g3, u1, u2, u3, i1, i2, A, B', C, D, E, F', hdr, ⟨b1, b2, b3, b4, b5, b6⟩, p1, p2, q1, q2, q3, a', b', c', d', e', f', et, kk⟩ := hk.turn (by omega) hN bN hL
    obtain ⟨y1, y2, y3, y4, y5, y6, y7, y8, y9⟩ := r3_sums A B' C D E F' a b c d e f
    have sl := sm_bd' bL
    have vb : ∀ t : Int, Bt (t % N) 300 := fun t => Bt.up (x := 200) (by
      have h0 := Int.emod_nonneg t (show N ≠ 0 by omega)
      have h1 := Int.emod_lt_of_pos t hN
      unfold Bt at *
      omega) (by decide)
    have z3 : Bt 0 300 := Nat.zero_le _
    refine ⟨_, Gd.name rfl, ?_⟩
    refine S.let1 (s := .dat (.list [.int (sop [l1, l2, l3] [a, 0, 0] % N), .int (sop [l1, l2, l3] [b, c, 0] % N), .int (sop [l1, l2, l3] [d, e, f] % N)])) (E1.frz (E1.comp3 (d1 := tI [a, 0, 0]) (d2 := tI [b, c, 0]) (d3 := tI [d, e, f]) (Wk.tup (E1.var rfl)) (E1.mod (E1.cSop (A1.cons (E1.var rfl) (A1.cons (E1.var rfl) A1.nil)) (by show 3 ≤ 1000; decide) rfl sl m1) (E1.var rfl) hN) (E1.mod (E1.cSop (A1.cons (E1.var rfl) (A1.cons (E1.var rfl) A1.nil)) (by show 3 ≤ 1000; decide) rfl sl m2) (E1.var rfl) hN) (E1.mod (E1.cSop (A1.cons (E1.var rfl) (A1.cons (E1.var rfl) A1.nil)) (by show 3 ≤ 1000; decide) rfl sl m3) (E1.var rfl) hN))) ?_
    refine S.asg1 (s := .dat (r3D a' b' c' d' e' f')) (E1.to (E1.call (R := RTidy) (ds := [.list [tI [A * a, 0, 0], tI [B' * a + C * b, C * c, 0], tI [D * a + E * b + F' * d, E * c + F' * e, F' * f]]]) (A1.cons (E1.frz (E1.comp3 (d1 := tI [A, 0, 0]) (d2 := tI [B', C, 0]) (d3 := tI [D, E, F']) (Wk.tup (E1.call (R := RDivR) (A1.cons (E1.var rfl) (A1.cons (E1.var rfl) A1.nil)) ⟨N, _, _, _, g1, g2, g3, u1, u2, u3, i1, i2, A, B', C, D, E, F', rfl, hN, bN.up (by decide), vb _, vb _, vb _, hdr, rfl⟩)) (E1.to (E1.call (R := RSummed) (A1.cons (E1.var rfl) (A1.cons (E1.var rfl) A1.nil)) ⟨A, 0, 0, a, b, c, d, e, f, rfl, b1, z3, z3, x1.up (by omega), x2.up (by omega), x3.up (by omega), x4.up (by omega), x5.up (by omega), x6.up (by omega), rfl⟩) (by rw [y1, y2, y3])) (E1.to (E1.call (R := RSummed) (A1.cons (E1.var rfl) (A1.cons (E1.var rfl) A1.nil)) ⟨B', C, 0, a, b, c, d, e, f, rfl, b2, b3, z3, x1.up (by omega), x2.up (by omega), x3.up (by omega), x4.up (by omega), x5.up (by omega), x6.up (by omega), rfl⟩) (by rw [y4, y5, y6])) (E1.to (E1.call (R := RSummed) (A1.cons (E1.var rfl) (A1.cons (E1.var rfl) A1.nil)) ⟨D, E, F', a, b, c, d, e, f, rfl, b4, b5, b6, x1.up (by omega), x2.up (by omega), x3.up (by omega), x4.up (by omega), x5.up (by omega), x6.up (by omega), rfl⟩) (by rw [y7, y8, y9])))) A1.nil) ⟨_, _, _, _, _, _, rfl, p1, p2, q1, q2, q3, rfl⟩) (by rw [et])) ⟨a', b', c', d', e', f', _, _, kk.to (fun x y z => Iff.rfl) (by omega), rfl⟩
  subst eτ
  rw [hR.one ⟨hk.h, hk.i⟩ fun x y z => Iff.rfl]
  exact S.ret1 (s := .dat (r3D a b c d e f)) (E1.var rfl) ⟨rfl, rfl⟩
theorem scAt3 : FnScope ["_law_script", "_law_k"] ["_law_script", "_law_k"] (defScope sAt3) := ⟨rfl, rfl, rfl, by decide +kernel, rfl, by decide +kernel, by decide +kernel⟩
theorem ok_at3 (F : Fun K "_law_at" "_law_at" sAt3 f fd) (m_len : mg "len" = none) :
    FnOk P w K mg base CX0 1 f fd ["_law_script", "_law_k"] (spP K RAt3) := by
  refine okP F scAt3 (fun ds d h => ?_) (fun cdv A0 outer s0 H0 E0 hr => ?_)
  · obtain ⟨sc, k, rfl, _⟩ := h; rfl
  refine ⟨_, (zss_cons (zs_if (zt_cmpR op_lt (zv 1) (ze_callB call_len_seq rfl m_len PySem.boot_len (za_n (zv 0) za_nil)) (nomark _)) (zss_one (zs_ret (ze_ix ix_list (zv 0) (zv 1) (fun _ _ => rfl)))) zss_nil)
    (zss_one (zs_ret ze_int))), fun ds d h => ?_⟩
  obtain ⟨sc, k, rfl, k0, rfl⟩ := h
  refine S.ifs (b := decide (k < (sc.length : Int))) (T1.test (E1.to (E1.lt (E1.var rfl) (E1.lenL (ds := sc.map .int) (A1.cons (E1.varL rfl) A1.nil))) (by rw [List.length_map]))) (fun h => ?_) (fun h => ?_)
  · have h := of_decide_eq_true h
    exact S.ret1 (s := .dat (.int (cellAt sc k))) (E1.ixL (ds := sc.map .int) (E1.varL rfl) (E1.var rfl) (by
      unfold atI cellAt
      rw [ixN_of k0 (by rw [List.length_map]; exact h), Option.bind_some, List.getElem?_map, List.getD_eq_getElem?_getD, List.getElem?_eq_getElem (by omega)]
      rfl)) ⟨rfl, rfl⟩
  · have h := of_decide_eq_false h
    have e : cellAt sc k = 0 := by
      unfold cellAt
      rw [List.getD_eq_getElem?_getD, List.getElem?_eq_none (by omega)]
      rfl
    rw [e]
    exact S.ret1 (s := .dat (.int 0)) E1.int ⟨rfl, rfl⟩
theorem scWholes3 : FnScope ["_law_found", "_law_many"] ["_law_found", "_law_many"] (defScope sWholes3) := ⟨rfl, rfl, rfl, by decide +kernel, rfl, by decide +kernel, by decide +kernel⟩
theorem ok_wholes3 (F : Fun K "_law_wholes" "_law_wholes" sWholes3 f fd) (m_len : mg "len" = none) (m_isinstance : mg "isinstance" = none) (m_tuple : mg "tuple" = none) (m_bool : mg "bool" = none) (m_int : mg "int" = none) :
    FnOk P w K mg base CX0 1 f fd ["_law_found", "_law_many"] (spP K RWholes) := by
  refine okP F scWholes3 (fun ds d h => ?_) (fun cdv A0 outer s0 H0 E0 hr => ?_)
  · obtain ⟨ns, k, rfl, _⟩ := h; rfl
  refine ⟨_, (zss_cons (zs_if (ZW.pt (zw_or (zt_not (zt_val (ze_callB (call_isiD (T := "tuple")) rfl m_isinstance (by rfl) (za_n (zv 0) (za_n (ze_tyn rfl m_tuple (by rfl)) za_nil))))) (zw_or1 (zt_cmpR op_ne (ze_callB call_len_seq rfl m_len PySem.boot_len (za_n (zv 0) za_nil)) (zv 1) (nomark _))))) (zss_one (zs_ret ze_bl)) zss_nil)
    (zss_one (zs_ret (ze_cmpR op_eq (ze_callB call_len_seq rfl m_len PySem.boot_len (za_cons (ze_comp (own := ["_law_one"]) scWholes3 rfl ⟨by decide +kernel, rfl, by decide +kernel, by decide +kernel, by decide +kernel, by decide +kernel, by decide +kernel, by decide +kernel, by decide +kernel⟩ (zi_tup (zv 0)) (fun C fp s H nd => zg_name (i := 0) nd rfl (Or.inl rfl)) (fun C fp s H => zts_one (ZW.pt (zw_and (zt_val (ze_callB (call_isiDC (T := "int")) rfl m_isinstance (by rfl) (za_n (zv 0) (za_n (ze_tyn rfl m_int (by rfl)) za_nil)))) (zw_and1 (zt_not (zt_val (ze_callB (call_isiDC (T := "bool")) rfl m_isinstance (by rfl) (za_n (zv 0) (za_n (ze_tyn rfl m_bool (by rfl)) za_nil))))))))) (fun C fp s H => (zv 0))) za_nil)) (zv 1) (nomark _))))), fun ds d h => ?_⟩
  obtain ⟨ns, k, rfl, hk, k4, rfl⟩ := h
  refine S.ifsF (T1.orF (T1.notT (T1.val (E1.isiT (E1.var rfl)))) (T1.neT (E1.lenT (ds := ns.map .int) (A1.cons (E1.var rfl) A1.nil)) (E1.var rfl) (by rw [List.length_map]; exact hk))) ?_
  exact S.ret1 (s := .dat (.bool true)) (E1.to (E1.eq (E1.lenL (ds := (ns.filter fun _ => true).map .int) (A1.cons (E1.vwo (E1.compIF (ns := ns) (kp := fun _ => true) (Wk.tup (E1.var rfl)) (fun n hn => T1.andT (T1.val (E1.isi (E1.var rfl) rfl (fun K => rfl))) (T1.notF (T1.val (E1.isi (E1.var rfl) rfl (fun K => rfl))))) (fun n hn => (E1.var rfl)) (Nat.le_trans (show ns.length ≤ 4 by omega) z4))) A1.nil)) (E1.var rfl)) (by rw [show (ns.filter fun _ => true) = ns from List.filter_eq_self.mpr fun _ _ => rfl, List.length_map, hk, decide_eq_true rfl])) ⟨rfl, rfl⟩
theorem scMix3 : FnScope ["_law_cell", "_law_k", "_law_number"] ["_law_cell", "_law_k"] (defScope sMix3) := ⟨rfl, rfl, rfl, by decide +kernel, rfl, by decide +kernel, by decide +kernel⟩
theorem ok_mix3 (F : Fun K "_law_mixed" "_law_mixed" sMix3 f fd) :
    FnOk P w K mg base CX0 1 f fd ["_law_cell", "_law_k"] (spP K RMix3) := by
  refine okP F scMix3 (fun ds d h => ?_) (fun cdv A0 outer s0 H0 E0 hr => ?_)
  · obtain ⟨c, k, rfl, _⟩ := h; rfl
  refine ⟨_, (zss_cons (zs_set (i := 2) scMix3.nd rfl (Or.inl rfl) (ze_op op_mod (ze_op op_add (ze_op op_add (ze_op op_mulB (zv 0) ze_int) (ze_op op_mulB (ze_op op_mulB ze_int (zv 1)) (zv 1))) (zv 1)) ze_int))
    (zss_cons (zs_set (i := 2) scMix3.nd rfl (Or.inl rfl) (ze_op op_mod (ze_op op_mulB (zv 2) (zv 2)) ze_int))
    (zss_one (zs_ret (ze_op op_mod (ze_op op_mulB (zv 2) ze_int) ze_int))))), fun ds d h => ?_⟩
  obtain ⟨c, k, rfl, k0, k1, rfl⟩ := h
  have m1 : IntMulOk c 1103515245 := K0.okR (by decide) (by decide)
  have m2 : IntMulOk 7919 k := K0.okL (by decide) (by decide)
  have m3 : IntMulOk (7919 * k) k := K0.okR (by omega) (by omega)
  refine S.let1 (s := .dat (.int ((c * 1103515245 + 7919 * k * k + k) % 2147483647))) (E1.mod (E1.add (E1.add (E1.mul (E1.var rfl) E1.int m1) (E1.mul (E1.mul E1.int (E1.var rfl) m2) (E1.var rfl) m3)) (E1.var rfl)) E1.int (by decide)) ?_
  have x0 : (0 : Int) ≤ (c * 1103515245 + 7919 * k * k + k) % 2147483647 := Int.emod_nonneg _ (by decide)
  have x1 : (c * 1103515245 + 7919 * k * k + k) % 2147483647 < (2147483647 : Int) := Int.emod_lt_of_pos _ (by decide)
  unfold mx3
  generalize (c * 1103515245 + 7919 * k * k + k) % 2147483647 = n at *
  refine S.let1 (s := .dat (.int (n * n % 2147483629))) (E1.mod (E1.mul (E1.var rfl) (E1.var rfl) (K0.okL (by omega) (by omega))) E1.int (by decide)) ?_
  have y0 : (0 : Int) ≤ n * n % 2147483629 := Int.emod_nonneg _ (by decide)
  have y1 : n * n % 2147483629 < (2147483629 : Int) := Int.emod_lt_of_pos _ (by decide)
  exact S.ret1 (s := .dat (.int (n * n % 2147483629 * 69621 % 2147483587))) (E1.mod (E1.mul (E1.var rfl) E1.int (K0.okR (by decide) (by decide))) E1.int (by decide)) ⟨rfl, rfl⟩
theorem scPur3 : FnScope ["_law_script", "_law_at_here", "_law_cell"] ["_law_script", "_law_at_here"] (defScope sPur3) := ⟨rfl, rfl, rfl, by decide +kernel, rfl, by decide +kernel, by decide +kernel⟩
theorem ok_pur3 (F : Fun K "_law_purse" "_law_purse" sPur3 f fd)
    (G : FnOk P w K mg base CX0 1 g gd ["_law_script", "_law_k"] (spP K RAt3)) (bG : Binds K gd ["_law_script", "_law_k"] []) (kG : PySem.W.keepIn K (.ref g) = true) (mG : mg "_law_at" = some (.ref g)) (m_max : mg "max" = none) :
    FnOk P w K mg base CX0 2 f fd ["_law_script", "_law_at_here"] (spN K RPur3) := by
  refine okN F scPur3 (fun ds d h => ?_) (fun cdv A0 outer s0 H0 E0 hr => ?_)
  · obtain ⟨sc, k, rfl, _⟩ := h; rfl
  have r := hr.mono (show 1 ≤ 1 by decide)
  refine ⟨_, (zss_cons (zs_set (i := 2) scPur3.nd rfl (Or.inl rfl) (ze_call G r rfl mG kG bG .nil pass0 (za_n (zv 0) (za_n (zv 1) za_nil))))
    (zss_one (zs_ret (ze_lst (za_c (ze_callB (call_max2 rfl) rfl m_max (by rfl) (za_b (ze_op op_sub (zv 2) (ze_op op_pow ze_int ze_int)) (za_i za_nil))) (za_n (zv 2) (za_b (ze_op op_mulB ze_int (zv 1)) za_nil))))))), fun ds es h => ?_⟩
  obtain ⟨sc, k, rfl, k0, k1, rfl⟩ := h
  refine S.let1 (s := .dat (.int (cellAt sc k))) (E1.call (R := RAt3) (A1.cons (E1.var rfl) (A1.cons (E1.var rfl) A1.nil)) ⟨sc, k, rfl, k0, rfl⟩) ?_
  exact S.ret1 (s := .own [.int (if 0 > cellAt sc k - 10 ^ 18 then 0 else cellAt sc k - 10 ^ 18), .int (cellAt sc k), .int (1000 * k)]) (E1.li (A1.cons (E1.max2 (A1.cons (E1.sub (E1.var rfl) (E1.pow E1.int E1.int (cpow10 (by decide) (by decide)))) (A1.cons E1.int A1.nil))) (A1.cons (E1.var rfl) (A1.cons (E1.mul E1.int (E1.var rfl) (K0.okL (by decide) (by decide))) A1.nil))) rfl (lsz (n := 3) rfl z3)) rfl
theorem scDraw3 : FnScope ["_law_purse_here", "_law_out_of", "_law_drawn", "_law_number", "_law_k"] ["_law_purse_here", "_law_out_of"] (defScope sDraw3) := ⟨rfl, rfl, rfl, by decide +kernel, rfl, by decide +kernel, by decide +kernel⟩
theorem ok_draw3 (F : Fun K "_law_draw" "_law_draw" sDraw3 f fd)
    (G : FnOk P w K mg base CX0 1 g gd ["_law_cell", "_law_k"] (spP K RMix3)) (bG : Binds K gd ["_law_cell", "_law_k"] []) (kG : PySem.W.keepIn K (.ref g) = true) (mG : mg "_law_mixed" = some (.ref g)) (m_range : mg "range" = none) (m_int : mg "int" = none) :
    FnOk P w K mg base CX0 2 f fd ["_law_purse_here", "_law_out_of"] (spD K 4 RDraw3) := by
  refine okD F scDraw3 (fun ds d h => ?_) (fun cdv A0 outer s0 H0 E0 hr => ?_)
  · obtain ⟨m, rfl, _⟩ := h; rfl
  have r := hr.mono (show 1 ≤ 1 by decide)
  refine ⟨_, (zss_cons (zs_if (zt_cmpR op_gt (ze_ix ix_list (zv 0) ze_int (fun _ _ => rfl)) ze_int (nomark _)) (zss_cons (zs_set (i := 2) scDraw3.nd rfl (Or.inl rfl) (ze_op op_mod (ze_ix ix_list (zv 0) ze_int (fun _ _ => rfl)) (zv 1)))
    (zss_cons (zs_asg (ze_op op_fdivB (ze_ix ix_list (zv 0) ze_int (fun _ _ => rfl)) (zv 1)) (zg_sub (zv 0) ze_int set_list (fun _ => rfl)))
    (zss_one (zs_ret (zv 2))))) zss_nil)
    (zss_cons (zs_set (i := 3) scDraw3.nd rfl (Or.inl rfl) ze_int)
    (zss_cons (zs_for PassesOwn.never rfl (zi_range1 rfl m_range (za_s (ze_ix ix_list (ze_lst (za_i (za_i za_nil))) (ze_callTy call_int1 rfl m_int (by rfl) (za_cons (ze_cmpR op_gt (zv 1) (ze_op op_pow ze_int ze_int) (nomark _)) za_nil)) pix_call) za_nil)) (zg_name (i := 4) scDraw3.nd rfl (Or.inl rfl)) (zss_cons (zs_asg (ze_op op_add (ze_ix ix_list (zv 0) ze_int (fun _ _ => rfl)) ze_int) (zg_sub (zv 0) ze_int set_list (fun _ => rfl)))
    (zss_one (zs_set (i := 3) scDraw3.nd rfl (Or.inl rfl) (ze_op op_add (ze_op op_mulB (zv 3) ze_int) (ze_call G r rfl mG kG bG .nil pass0 (za_s (ze_ix ix_list (zv 0) ze_int (fun _ _ => rfl)) (za_s (ze_ix ix_list (zv 0) ze_int (fun _ _ => rfl)) za_nil))))))))
    (zss_one (zs_ret (ze_op op_mod (zv 3) (zv 1))))))), fun q n ds C hc h => ?_⟩
  obtain ⟨m, rfl, m0, m1, rfl⟩ := h
  have ml : CDivB 0 m := ⟨by omega, (Nat.log2_lt (by omega)).mpr (Nat.lt_of_lt_of_le (show m.natAbs < 2 ^ 200 by omega) (Nat.pow_le_pow_right (by decide) (by decide)))⟩
  refine S2.ifs2 (M1 := n) (T2.cmp (EI2.p0) (EI2.of (P := fun j => j = 0) E1.int rfl)) (fun _ => ?_) (fun _ => ?_)
  · refine S2.letI (P := fun d => 0 ≤ d ∧ d < m) (EI2.mono (EI2.opC (EI2.p0) (EI2.of (P := fun j => j = m) (E1.var rfl) rfl) (fun i j _ hj => by subst hj; exact m0)) (fun k ⟨i, j, _, hj, e⟩ => by subst hj e; exact ⟨Int.emod_nonneg _ (by omega), Int.emod_lt_of_pos _ m0⟩)) (fun d hd => ?_)
    refine S2.seq (M1 := n) (X := fun τ' => τ' = [.un, .dat (.int m), .dat (.int d), .un, .un]) (S2.setP0 (P := fun _ => True) (EI2.mono (EI2.opC (EI2.p0) (EI2.of (P := fun j => j = m) (E1.var rfl) rfl) (fun i j _ hj => by subst hj; exact ml)) (fun _ _ => trivial)) rfl) (fun τ' e => ?_)
    subst e
    exact S2.ret1 (s := .dat (.int d)) (E1.var rfl) ⟨_, ⟨d, rfl, hd⟩, rfl, rfl⟩
  refine S2.let1 (d := .int 0) E1.int ?_
  obtain ⟨r, hr, r4⟩ : ∃ r : Nat, atI [Dat.int 1, Dat.int 4] (if decide ((10 : Int) ^ Int.toNat 9 < m) then 1 else 0) = some (.int (r : Int)) ∧ r ≤ 4 := by
    by_cases h : (10 : Int) ^ Int.toNat 9 < m
    · rw [decide_eq_true h]; exact ⟨4, rfl, by decide⟩
    · rw [decide_eq_false h]; exact ⟨1, rfl, by decide⟩
  refine S2.seq (M1 := n + 4) (X := fun τ' => ∃ (a : Int) (o : Sl), τ' = [.un, .dat (.int m), .un, .dat (.int a), o]) (S2.for (c := 1) (Wk.rng (n := r) (A1.cons (E1.ixL (ds := [.int 1, .int 4]) (d := .int (r : Int)) (E1.vwo (E1.li (by walk_at "au3") rfl (lsz (n := 2) rfl z2))) (E1.b2i (A1.cons (E1.gt (E1.var rfl) (E1.pow E1.int E1.int (cpow10 (by decide) (by decide)))) A1.nil)) hr) A1.nil) (Int.toNat_natCast r) (by omega) (by omega)) (fun _ τ' => ∃ (a : Int) (o : Sl), τ' = [.un, .dat (.int m), .un, .dat (.int a), o]) ⟨0, _, rfl⟩ (fun k d τ1 hd ⟨a, o, e1⟩ => ?_) (fun τ1 h => h) (by decide) (by rw [rangeD_len]; omega)) (fun τ' ⟨a, o, e⟩ => ?_)
  · subst e1
    have hk : k < r := by
      have := (List.getElem?_eq_some_iff.mp hd).1
      rw [rangeD_len] at this; exact this
    refine S2.seq (M1 := n + (k + 1) * 1) (X := fun τ' => τ' = [.un, .dat (.int m), .un, .dat (.int a), .dat d]) (S2.setP2 (EI2.op (EI2.p2) EI2.lit) (fun j ⟨i, l, hi, hl, ej⟩ => by subst hl ej; omega) rfl) (fun τ' e => ?_)
    subst e
    exact S2.asg (EI2.op (Q := fun _ => True) (EI2.opC (EI2.of (P := fun j => j = a) (E1.var rfl) rfl) EI2.lit (fun i j _ hj => by subst hj; exact K0.okR (by decide) (by decide))) (E2.mono (E2.callP (C := fun d => ∃ i, d = .int i ∧ True) (A2.ints2 (EI2.p1) (EI2.p2)) (fun ds ⟨i, j, e, _, hj⟩ => ⟨_, ⟨i, j, e, hj.1, by omega, rfl⟩, _, rfl, trivial⟩)) (fun s ⟨d, e, i, ei, _⟩ => ⟨i, by rw [e, ei], trivial⟩))) (fun s ⟨i, e, _⟩ => by rw [e]; exact ⟨rfl, fun z => by cases z⟩) (fun s ⟨i, e, _⟩ => ⟨i, .dat d, by subst e; rfl⟩)
  · subst e
    exact S2.ret (EI2.opC (P := fun j => j = a) (Q := fun j => j = m) (EI2.of (E1.var rfl) rfl) (EI2.of (E1.var rfl) rfl) (fun i j _ hj => by subst hj; exact m0)) (fun s ⟨k, e, i, j, _, hj, ek⟩ => by subst hj ek e; exact ⟨_, ⟨_, rfl, Int.emod_nonneg _ (by omega), Int.emod_lt_of_pos _ m0⟩, rfl, rfl⟩)
theorem scSm3 : FnScope ["_law_purse_here", "_law_most"] ["_law_purse_here", "_law_most"] (defScope sSm3) := ⟨rfl, rfl, rfl, by decide +kernel, rfl, by decide +kernel, by decide +kernel⟩
theorem ok_sm3 (F : Fun K "_law_small" "_law_small" sSm3 f fd)
    (G : FnOk P w K mg base CX0 2 g gd ["_law_purse_here", "_law_out_of"] (spD K 4 RDraw3)) (bG : Binds K gd ["_law_purse_here", "_law_out_of"] []) (kG : PySem.W.keepIn K (.ref g) = true) (mG : mg "_law_draw" = some (.ref g)) :
    FnOk P w K mg base CX0 3 f fd ["_law_purse_here", "_law_most"] (spD K 4 RSm3) := by
  refine okD F scSm3 (fun ds d h => ?_) (fun cdv A0 outer s0 H0 E0 hr => ?_)
  · obtain ⟨m, rfl, _⟩ := h; rfl
  have r := hr.mono (show 2 ≤ 2 by decide)
  refine ⟨_, (zss_one (zs_ret (ze_op op_sub (ze_call G r rfl mG kG bG .nil pass0 (za_n (zv 0) (za_b (ze_op op_add (ze_op op_mulB ze_int (zv 1)) ze_int) za_nil))) (zv 1)))), fun q n ds C hc h => ?_⟩
  obtain ⟨m, rfl, m0, m1, rfl⟩ := h
  exact S2.ret (EI2.op (E2.drawn (m := 2 * m + 1) (A1.cons (E1.add (E1.mul E1.int (E1.var rfl) (K0.okL (by decide) (by decide))) E1.int) A1.nil) (by omega) (by omega)) (EI2.of (P := fun j => j = m) (E1.var rfl) rfl)) (fun s ⟨k, e, i, j, hi, hj, ek⟩ => by subst hj e; exact ⟨_, ⟨k, rfl, by omega⟩, rfl, rfl⟩)
theorem scFour3 : FnScope ["_law_purse_here", "_law_most", "_law_found"] ["_law_purse_here", "_law_most"] (defScope sFour3) := ⟨rfl, rfl, rfl, by decide +kernel, rfl, by decide +kernel, by decide +kernel⟩
theorem ok_four3 (F : Fun K "_law_four" "_law_four" sFour3 f fd)
    (G : FnOk P w K mg base CX0 3 g gd ["_law_purse_here", "_law_most"] (spD K 4 RSm3)) (bG : Binds K gd ["_law_purse_here", "_law_most"] []) (kG : PySem.W.keepIn K (.ref g) = true) (mG : mg "_law_small" = some (.ref g)) (m_tuple : mg "tuple" = none) (m_range : mg "range" = none) :
    FnOk P w K mg base CX0 4 f fd ["_law_purse_here", "_law_most"] (spD K 16 RFour3) := by
  refine okD F scFour3 (fun ds d h => ?_) (fun cdv A0 outer s0 H0 E0 hr => ?_)
  · obtain ⟨m, rfl, _⟩ := h; rfl
  have r := hr.mono (show 3 ≤ 3 by decide)
  refine ⟨_, (zss_cons (zs_set (i := 2) scFour3.nd rfl (Or.inl rfl) (ze_callTy call_tuple_of rfl m_tuple (by rfl) (za_cons (ze_comp (own := ["_law_k"]) scFour3 rfl ⟨by decide +kernel, rfl, by decide +kernel, by decide +kernel, by decide +kernel, by decide +kernel, by decide +kernel, by decide +kernel, by decide +kernel⟩ (zi_range1 rfl m_range (za_i za_nil)) (fun C fp s H nd => zg_name (i := 0) nd rfl (Or.inl rfl)) (fun C fp s H => zts_nil) (fun C fp s H => (ze_call G r rfl mG kG bG .nil pass0 (za_n (zv 1) (za_n (zv 2) za_nil))))) za_nil)))
    (zss_cons (zs_if (zt_cmpR (op_eqD hr.units) (zv 2) (ze_tup (za_i (za_i (za_i (za_i za_nil))))) (nomark _)) (zss_one (zs_ret (ze_tup (za_i (za_i (za_i (za_i za_nil))))))) zss_nil)
    (zss_one (zs_ret (zv 2))))), fun q n ds C hc h => ?_⟩
  obtain ⟨m, rfl, m0, m1, rfl⟩ := h
  refine S2.letC (M1 := n + 16) (E2.up (E2.tupC (E2.comp (c := 4) (Cd := fun e => ∃ i : Int, e = .int i ∧ -m ≤ i ∧ i ≤ m) (Wk.r4 (A1.cons E1.int A1.nil)) (fun i d hd => E2.up (E2.call1 (ds := [.int m]) (A1.cons (E1.var rfl) A1.nil) ⟨m, rfl, m0, m1, rfl⟩ (by have : i < 4 := (List.getElem?_eq_some_iff.mp hd).1; omega)) (by omega)) (lsz (n := 4) rfl z4))) (by show n + 4 * 4 ≤ n + 16; omega)) (fun d ⟨es, ed, le, he⟩ => ?_)
  have nb : ∀ {k : Int}, -m ≤ k → k ≤ m → k.natAbs ≤ m.toNat := fun h1 h2 => by omega
  subst ed
  match es, le with
  | [ea, eb, ec, ee], _ =>
  obtain ⟨a, rfl, a0, a1⟩ := he ea (by simp)
  obtain ⟨b, rfl, b0, b1⟩ := he eb (by simp)
  obtain ⟨c, rfl, c0, c1⟩ := he ec (by simp)
  obtain ⟨e, rfl, e0, e1⟩ := he ee (by simp)
  refine S2.ifs (C := fun bb => bb = decide ([a, b, c, e] = [0, 0, 0, 0])) (T1.ofB ((T1.test (E1.eqD (d := tI [a, b, c, e]) (e := tI [0, 0, 0, 0]) (E1.var rfl) (by walk_at "au3") rfl rfl kqd_tup kqd_tup)).eqn deq_tup)) (M1 := n + 16) (fun _ => ?_) (fun h => ?_)
  · exact S2.ret1 (s := .dat (tI [1, 0, 0, 0])) (by walk_at "au3") ⟨_, ⟨1, 0, 0, 0, rfl, by decide, fun k hk => by simp only [List.mem_cons, List.mem_nil_iff, or_false] at hk; omega⟩, rfl, rfl⟩
  · have nz : [a, b, c, e] ≠ [0, 0, 0, 0] := of_decide_eq_false h.symm
    exact S2.ret1 (s := .dat (tI [a, b, c, e])) (E1.var rfl) ⟨_, ⟨a, b, c, e, rfl, (nz_of_ne4 rfl nz), fun k hk => by simp only [List.mem_cons, List.mem_nil_iff, or_false] at hk; rcases hk with rfl | rfl | rfl | rfl <;> first | exact nb a0 a1 | exact nb b0 b1 | exact nb c0 c1 | exact nb e0 e1⟩, rfl, rfl⟩
theorem scSumM : FnScope ["_law_one", "_law_other"] ["_law_one", "_law_other"] (defScope sSumM) := ⟨rfl, rfl, rfl, by decide +kernel, rfl, by decide +kernel, by decide +kernel⟩
theorem ok_summ (F : Fun K "_law_sum" "_law_sum" sSumM f fd) (m_sum : mg "sum" = none) (m_zip : mg "zip" = none) :
    FnOk P w K mg base CX0 1 f fd ["_law_one", "_law_other"] (spP K RSopM) := by
  refine okP F scSumM (fun ds d h => ?_) (fun cdv A0 outer s0 H0 E0 hr => ?_)
  · rcases h with ⟨p, q, r, s, rfl, _⟩ | ⟨a, b, c, x, y, z, rfl | rfl, _⟩ <;> rfl
  refine ⟨_, (zss_one (zs_ret (ze_callB (call_sumL rfl) rfl m_sum (by rfl) (za_cons (ze_comp (own := ["_law_a", "_law_b"]) scSumM rfl ⟨by decide +kernel, rfl, by decide +kernel, by decide +kernel, by decide +kernel, by decide +kernel, by decide +kernel, by decide +kernel, by decide +kernel⟩ (zi_or (zi_zip rfl m_zip (za_n (zv 0) (za_n (zv 1) za_nil))) (zi_zipG false true rfl m_zip (za_n (zv 0) (za_n (zv 1) za_nil)))) (fun C fp s H nd => zg_pair rfl nd rfl rfl rfl rfl) (fun C fp s H => zts_nil) (fun C fp s H => (ze_op op_mulB (zv 0) (zv 1)))) za_nil)))), fun ds d h => ?_⟩
  rcases h with ⟨p, q, r, s, rfl, bq, rfl⟩ | ⟨a, b, c, x, y, z, hd, b1, b2, rfl⟩
  · have bm : ∀ n ∈ [p, q, r, s], Bt n 300 := bq
    exact S.ret1 (s := .dat (.int (sop [p, q, r, s] [p, q, r, s]))) (E1.to (E1.su (ns := [p * p, q * q, r * r, s * s]) (A1.cons (E1.vwo (E1.compZI (ns := [p, q, r, s]) (ms := [p, q, r, s]) (g := fun n m => n * m) (Wk.orL (Wk.zip (A1.cons (E1.var rfl) (A1.cons (E1.var rfl) A1.nil)) rfl)) (fun n m hn hm => E1.mul (E1.var rfl) (E1.var rfl) ((bm n hn).mulOk (bm m hm))) z4)) A1.nil) rfl) (by rw [sop44]; simp; omega)) ⟨rfl, rfl⟩
  · obtain ⟨ba, bb, bc⟩ := bd_bt3 b1
    obtain ⟨bx, by', bz⟩ := bd_bt3 b2
    rcases hd with rfl | rfl
    · exact S.ret1 (s := .dat (.int (sop [a, b, c] [x, y, z]))) (E1.to (E1.su (ns := [a * x, b * y, c * z]) (A1.cons (E1.vwo (E1.compZ3 (x1 := .int a) (x2 := .int b) (x3 := .int c) (y1 := .int x) (y2 := .int y) (y3 := .int z) (Wk.orL (Wk.zip (A1.cons (E1.var rfl) (A1.cons (E1.var rfl) A1.nil)) rfl)) (E1.mul (E1.var rfl) (E1.var rfl) (ba.mulOk bx)) (E1.mul (E1.var rfl) (E1.var rfl) (bb.mulOk by')) (E1.mul (E1.var rfl) (E1.var rfl) (bc.mulOk bz)))) A1.nil) rfl) (by rw [sop33]; simp; omega)) ⟨rfl, rfl⟩
    · exact S.ret1 (s := .dat (.int (sop [a, b, c] [x, y, z]))) (E1.to (E1.su (ns := [a * x, b * y, c * z]) (A1.cons (E1.vwo (E1.compZ3 (x1 := .int a) (x2 := .int b) (x3 := .int c) (y1 := .int x) (y2 := .int y) (y3 := .int z) (Wk.orR (Wk.zipG (b1 := false) (b2 := true) (A1.cons (E1.var rfl) (A1.cons (E1.var rfl) A1.nil)) rfl)) (E1.mul (E1.var rfl) (E1.var rfl) (ba.mulOk bx)) (E1.mul (E1.var rfl) (E1.var rfl) (bb.mulOk by')) (E1.mul (E1.var rfl) (E1.var rfl) (bc.mulOk bz)))) A1.nil) rfl) (by rw [sop33]; simp; omega)) ⟨rfl, rfl⟩
theorem scRows3 : FnScope ["_law_four_here", "_law_w", "_law_x", "_law_y", "_law_z", "_law_first", "_law_second"] ["_law_four_here"] (defScope sRows3) := ⟨rfl, rfl, rfl, by decide +kernel, rfl, by decide +kernel, by decide +kernel⟩
theorem ok_rows3 (F : Fun K "_law_rows" "_law_rows" sRows3 f fd) :
    FnOk P w K mg base CX0 1 f fd ["_law_four_here"] (spP K RRows3) := by
  refine okP F scRows3 (fun ds d h => ?_) (fun cdv A0 outer s0 H0 E0 hr => ?_)
  · obtain ⟨a, b, c, e, rfl, _⟩ := h; rfl
  refine ⟨_, (zss_cons (zs_asg (zv 0) (zg_tup rfl (zgs_cons (zg_name (i := 1) scRows3.nd rfl (Or.inl rfl)) (zgs_cons (zg_name (i := 2) scRows3.nd rfl (Or.inl rfl)) (zgs_cons (zg_name (i := 3) scRows3.nd rfl (Or.inl rfl)) (zgs_cons (zg_name (i := 4) scRows3.nd rfl (Or.inl rfl)) zgs_nil))))))
    (zss_cons (zs_set (i := 5) scRows3.nd rfl (Or.inl rfl) (ze_tup (za_b (ze_op op_sub (ze_op op_sub (ze_op op_add (ze_op op_mulB (zv 1) (zv 1)) (ze_op op_mulB (zv 2) (zv 2))) (ze_op op_mulB (zv 3) (zv 3))) (ze_op op_mulB (zv 4) (zv 4))) (za_b (ze_op op_mulB ze_int (ze_op op_sub (ze_op op_mulB (zv 2) (zv 3)) (ze_op op_mulB (zv 1) (zv 4)))) (za_b (ze_op op_mulB ze_int (ze_op op_add (ze_op op_mulB (zv 2) (zv 4)) (ze_op op_mulB (zv 1) (zv 3)))) za_nil)))))
    (zss_cons (zs_set (i := 6) scRows3.nd rfl (Or.inl rfl) (ze_tup (za_b (ze_op op_mulB ze_int (ze_op op_add (ze_op op_mulB (zv 2) (zv 3)) (ze_op op_mulB (zv 1) (zv 4)))) (za_b (ze_op op_sub (ze_op op_add (ze_op op_sub (ze_op op_mulB (zv 1) (zv 1)) (ze_op op_mulB (zv 2) (zv 2))) (ze_op op_mulB (zv 3) (zv 3))) (ze_op op_mulB (zv 4) (zv 4))) (za_b (ze_op op_mulB ze_int (ze_op op_sub (ze_op op_mulB (zv 3) (zv 4)) (ze_op op_mulB (zv 1) (zv 2)))) za_nil)))))
    (zss_one (zs_ret (ze_lst (za_n (zv 5) (za_n (zv 6) (za_t (ze_tup (za_b (ze_op op_mulB ze_int (ze_op op_sub (ze_op op_mulB (zv 2) (zv 4)) (ze_op op_mulB (zv 1) (zv 3)))) (za_b (ze_op op_mulB ze_int (ze_op op_add (ze_op op_mulB (zv 3) (zv 4)) (ze_op op_mulB (zv 1) (zv 2)))) (za_b (ze_op op_add (ze_op op_sub (ze_op op_sub (ze_op op_mulB (zv 1) (zv 1)) (ze_op op_mulB (zv 2) (zv 2))) (ze_op op_mulB (zv 3) (zv 3))) (ze_op op_mulB (zv 4) (zv 4))) za_nil)))) za_nil))))))))), fun ds d h => ?_⟩
  obtain ⟨a, b, c, e, rfl, bd, rfl⟩ := h
  obtain ⟨ba, bb, bc, be⟩ := bd_bt4 bd
  refine S.letG (E1.var rfl) (Gd.four (d1 := .int a) (d2 := .int b) (d3 := .int c) (d4 := .int e)) ?_
  refine S.let1 (s := .dat (tI (rw1 a b c e))) (by (walk_at "au3")) ?_
  refine S.let1 (s := .dat (tI (rw2 a b c e))) (by (walk_at "au3")) ?_
  exact S.ret1 (s := .own [tI (rw1 a b c e), tI (rw2 a b c e), tI (rw3 a b c e)]) (E1.li (A1.cons (E1.var rfl) (A1.cons (E1.var rfl) (A1.cons (by (walk_at "au3")) A1.nil))) rfl (lsz (n := 3) rfl z3)) ⟨rfl, rfl⟩
theorem scGcd3 : FnScope ["_law_numbers", "_law_found", "_law_number", "_law_one", "_law_other"] ["_law_numbers"] (defScope sGcd3) := ⟨rfl, rfl, rfl, by decide +kernel, rfl, by decide +kernel, by decide +kernel⟩
theorem ok_gcd3 (F : Fun K "_law_divisor" "_law_divisor" sGcd3 f fd) (m_abs : mg "abs" = none) :
    FnOk P w K mg base CX0 1 f fd ["_law_numbers"] (spP K RGcd) := by
  refine okP F scGcd3 (fun ds d h => ?_) (fun cdv A0 outer s0 H0 E0 hr => ?_)
  · obtain ⟨ns, rfl, _⟩ := h; rfl
  refine ⟨_, (zss_cons (zs_set (i := 1) scGcd3.nd rfl (Or.inl rfl) ze_int)
    (zss_cons (zs_for PassesOwn.never rfl (zi_tup (zv 0)) (zg_name (i := 2) scGcd3.nd rfl (Or.inl rfl)) (zss_cons (zs_par (i := 3) (j := 4) rfl scGcd3.nd rfl rfl (by decide) rfl rfl (za_c (ze_callB call_abs rfl m_abs (by rfl) (za_n (zv 1) za_nil)) (za_c (ze_callB call_abs rfl m_abs (by rfl) (za_n (zv 2) za_nil)) za_nil)) rfl)
    (zss_cons (zs_while PassesOwn.never (zt_cmpR op_gt (zv 4) ze_int (nomark _)) (zss_one (zs_par (i := 3) (j := 4) rfl scGcd3.nd rfl rfl (by decide) rfl rfl (za_n (zv 4) (za_b (ze_op op_mod (zv 3) (zv 4)) za_nil)) rfl)))
    (zss_one (zs_set (i := 1) scGcd3.nd rfl (Or.inl rfl) (zv 3))))))
    (zss_one (zs_ret (zv 1))))), fun ds d h => ?_⟩
  obtain ⟨ns, rfl, rfl⟩ := h
  refine S.let1 (s := .dat (.int 0)) E1.int ?_
  refine S.seq (M := fun τ' => ∃ o1 o2 o3 : Sl, τ' = [.dat (tI ns), .dat (.int (gcdN ns)), o1, o2, o3]) ?_ fun τ' ⟨o1, o2, o3, eτ⟩ => ?_
  · refine S.for (Wk.tup (ds := ns.map .int) (E1.var rfl)) (fun i τ' => ∃ o1 o2 o3 : Sl, τ' = [.dat (tI ns), .dat (.int (gcdN (ns.take i))), o1, o2, o3]) ⟨_, _, _, rfl⟩ (fun i d τ1 hd ⟨o1, o2, o3, e1⟩ => ?_) (fun τ1 ⟨o1, o2, o3, e1⟩ => ⟨o1, o2, o3, by rw [e1, List.length_map, List.take_length]⟩)
    subst e1
    rw [List.getElem?_map] at hd
    cases hn : ns[i]? with
    | none => rw [hn] at hd; cases hd
    | some n =>
      rw [hn] at hd
      cases hd
      have tk : ns.take (i + 1) = ns.take i ++ [n] := by rw [List.take_add_one, hn]; rfl
      refine ⟨_, Gd.name, ?_⟩
      refine S.seq (M := fun τ' => τ' = [.dat (tI ns), .dat (.int (gcdN (ns.take i))), .dat (.int n), .dat (.int (gcdN (ns.take i))), .dat (.int n.natAbs)]) (S.par (d1 := .int (gcdN (ns.take i))) (d2 := .int n.natAbs) (A1.cons (E1.to (E1.abs (A1.cons (E1.var rfl) A1.nil)) (by congr 2)) (A1.cons (E1.to (E1.abs (A1.cons (E1.var rfl) A1.nil)) (by congr 2; split <;> omega)) A1.nil)) rfl) fun τ' e => ?_
      subst e
      refine S.seq (M := fun τ' => τ' = [.dat (tI ns), .dat (.int (gcdN (ns.take i))), .dat (.int n), .dat (.int (gcdN (ns.take (i + 1)))), .dat (.int 0)]) ?_ fun τ' e => ?_
      · refine S.while (fun m τ' => ∃ c d : Nat, Nat.gcd c d = gcdN (ns.take (i + 1)) ∧ d = m ∧ τ' = [.dat (tI ns), .dat (.int (gcdN (ns.take i))), .dat (.int n), .dat (.int c), .dat (.int d)]) (m0 := n.natAbs) ⟨gcdN (ns.take i), n.natAbs, by rw [tk, gcdN_snoc], rfl, rfl⟩ (fun m τ1 ⟨c, d, hg, hm, e1⟩ => ?_)
        subst e1 hm
        refine ⟨fun b => decide ((0 : Int) < d) = b, T1.test (E1.gt (E1.var rfl) E1.int), fun h => ?_, fun h => ?_⟩
        · have h0 : (0 : Int) < d := of_decide_eq_true h
          have hlt : c % d < d := Nat.mod_lt _ (by omega)
          exact S.par (d1 := .int (d : Int)) (d2 := .int ((c % d : Nat) : Int)) (A1.cons (E1.var rfl) (A1.cons (E1.to (E1.mod (E1.var rfl) (E1.var rfl) h0) (by rw [Int.natCast_emod])) A1.nil)) ⟨c % d, hlt, d, c % d, by rw [← hg, Nat.gcd_comm c d, Nat.gcd_rec d c, Nat.gcd_comm], rfl, rfl⟩
        · have h0 : d = 0 := by have := of_decide_eq_false h; omega
          subst h0
          rw [Nat.gcd_zero_right] at hg
          rw [hg]; rfl
      subst e
      exact S.asg1 (s := .dat (.int (gcdN (ns.take (i + 1))))) (E1.var rfl) ⟨_, _, _, rfl⟩
  subst eτ
  exact S.ret1 (s := .dat (.int (gcdN ns))) (E1.var rfl) ⟨rfl, rfl⟩
theorem scShr3 : FnScope ["_law_numbers", "_law_by"] ["_law_numbers"] (defScope sShr3) := ⟨rfl, rfl, rfl, by decide +kernel, rfl, by decide +kernel, by decide +kernel⟩
theorem ok_shr3 (F : Fun K "_law_shrunk" "_law_shrunk" sShr3 f fd)
    (G : FnOk P w K mg base CX0 1 g gd ["_law_numbers"] (spP K RGcd)) (bG : Binds K gd ["_law_numbers"] []) (kG : PySem.W.keepIn K (.ref g) = true) (mG : mg "_law_divisor" = some (.ref g)) (m_tuple : mg "tuple" = none) :
    FnOk P w K mg base CX0 2 f fd ["_law_numbers"] (spP K RShr) := by
  refine okP F scShr3 (fun ds d h => ?_) (fun cdv A0 outer s0 H0 E0 hr => ?_)
  · obtain ⟨ns, rfl, _⟩ := h; rfl
  have r := hr.mono (show 1 ≤ 1 by decide)
  refine ⟨_, (zss_cons (zs_set (i := 1) scShr3.nd rfl (Or.inr rfl) (ze_call G r rfl mG kG bG .nil pass0 (za_n (zv 0) za_nil)))
    (zss_one (zs_ret (ze_callTy call_tuple_of rfl m_tuple (by rfl) (za_cons (ze_comp (own := ["_law_number"]) scShr3 rfl ⟨by decide +kernel, rfl, by decide +kernel, by decide +kernel, by decide +kernel, by decide +kernel, by decide +kernel, by decide +kernel, by decide +kernel⟩ (zi_tup (zv 0)) (fun C fp s H nd => zg_name (i := 0) nd rfl (Or.inl rfl)) (fun C fp s H => zts_nil) (fun C fp s H => (ze_op op_fdivB (zv 0) (zv 2)))) za_nil))))), fun ds d h => ?_⟩
  obtain ⟨ns, rfl, ln, nz, sm, rfl⟩ := h
  refine S.let1 (s := .dat (.int (gcdN ns))) (E1.call (R := RGcd) (A1.cons (E1.var rfl) A1.nil) ⟨ns, rfl, rfl⟩) ?_
  have gp : 0 < gcdN ns := gcdN_pos nz
  exact S.ret1 (s := .dat (tI (red ns))) (E1.tupleL (A1.cons (E1.vwo (E1.compI (ns := ns) (g := fun n => n / (gcdN ns : Int)) (Wk.tup (E1.var rfl)) (fun n hn => E1.to (E1.fdiv (E1.var rfl) (E1.var rfl) ⟨by omega, gcd_small nz sm⟩) (by rw [Int.fdiv_eq_ediv_of_nonneg _ (by omega)])) (Nat.le_trans ln z4))) A1.nil)) ⟨rfl, noLs_ints _⟩
theorem scPl3 : FnScope ["_law_four_here", "_law_found", "_law_number"] ["_law_four_here"] (defScope sPl3) := ⟨rfl, rfl, rfl, by decide +kernel, rfl, by decide +kernel, by decide +kernel⟩
theorem ok_pl3 (F : Fun K "_law_plain" "_law_plain" sPl3 f fd)
    (G : FnOk P w K mg base CX0 2 g gd ["_law_numbers"] (spP K RShr)) (bG : Binds K gd ["_law_numbers"] []) (kG : PySem.W.keepIn K (.ref g) = true) (mG : mg "_law_shrunk" = some (.ref g)) (m_tuple : mg "tuple" = none) (m_int : mg "int" = none) :
    FnOk P w K mg base CX0 3 f fd ["_law_four_here"] (spP K RPl3) := by
  refine okP F scPl3 (fun ds d h => ?_) (fun cdv A0 outer s0 H0 E0 hr => ?_)
  · obtain ⟨ns, rfl, _⟩ := h; rfl
  have r := hr.mono (show 2 ≤ 2 by decide)
  refine ⟨_, (zss_cons (zs_set (i := 1) scPl3.nd rfl (Or.inl rfl) (ze_call G r rfl mG kG bG .nil pass0 (za_n (zv 0) za_nil)))
    (zss_cons (zs_for PassesOwn.never rfl (zi_tup (zv 1)) (zg_name (i := 2) scPl3.nd rfl (Or.inr rfl)) (zss_one (zs_if (zt_cmpR op_ne (zv 2) ze_int (nomark _)) (zss_one (zs_ret (ze_callTy call_tuple_of rfl m_tuple (by rfl) (za_cons (ze_comp (own := ["_law_part"]) scPl3 rfl ⟨by decide +kernel, rfl, by decide +kernel, by decide +kernel, by decide +kernel, by decide +kernel, by decide +kernel, by decide +kernel, by decide +kernel⟩ (zi_tup (zv 1)) (fun C fp s H nd => zg_name (i := 0) nd rfl (Or.inl rfl)) (fun C fp s H => zts_nil) (fun C fp s H => (ze_ix ix_listC (ze_lst (za_n (zv 0) (za_b (ze_op op_sub ze_int (zv 0)) za_nil))) (ze_callTy call_int1 rfl m_int (by rfl) (za_cons (ze_cmpR op_lt (zv 3) ze_int (nomark _)) za_nil)) pix_call))) za_nil)))) zss_nil)))
    (zss_one (zs_ret (zv 1))))), fun ds d h => ?_⟩
  obtain ⟨ns, rfl, ln, nz, sm, rfl⟩ := h
  refine S.let1 (s := .dat (tI (red ns))) (E1.call (R := RShr) (A1.cons (E1.var rfl) A1.nil) ⟨ns, rfl, ln, nz, sm, rfl⟩) ?_
  have nr : ∃ n ∈ red ns, n ≠ 0 := nz_red nz
  have lr : (red ns).length ≤ 4 := by unfold red; rw [List.length_map]; exact ln
  rw [← plain_eq nz]
  generalize red ns = rs at nr lr ⊢
  refine S.seq (M := fun τ' => False) ?_ fun τ' h => h.elim
  refine S.for (Wk.tup (ds := rs.map .int) (E1.var rfl)) (fun i τ' => (∀ k ∈ rs.take i, k = 0) ∧ ∃ o : Sl, τ' = [.dat (tI ns), .dat (tI rs), o]) ⟨fun k hk => (by cases hk), _, rfl⟩ (fun i d τ1 hd ⟨hz, o, e1⟩ => ?_) (fun τ1 ⟨hz, _⟩ => ?_)
  · subst e1
    rw [List.getElem?_map] at hd
    cases hn : rs[i]? with
    | none => rw [hn] at hd; cases hd
    | some n =>
      rw [hn] at hd
      cases hd
      refine ⟨_, Gd.name, ?_⟩
      refine S.if1 (b := !decide (n = 0)) (T1.test (E1.ne (E1.var rfl) E1.int)) (fun h => ?_) (fun h => ?_)
      · have n0 : n ≠ 0 := by simpa using h
        have ef : fst0 rs = n := fst0_at hz hn n0
        have eg : (if fst0 rs < 0 then rs.map (fun n => -n) else rs) = rs.map (fun k => if n < 0 then 0 - k else k) := by
          rw [ef]
          by_cases c : n < 0
          · rw [if_pos c]; apply List.map_congr_left; intro k _; rw [if_pos c]; omega
          · rw [if_neg c]; conv => lhs; rw [← List.map_id rs]
            apply List.map_congr_left; intro k _; rw [if_neg c]; rfl
        rw [eg]
        exact S.ret1 (s := .dat (tI (rs.map fun k => if n < 0 then 0 - k else k))) (E1.tupleL (A1.cons (E1.vwo (E1.compI (ns := rs) (g := fun k => if n < 0 then 0 - k else k) (Wk.tup (E1.var rfl)) (fun k hk => E1.ixL (ds := [.int k, .int (0 - k)]) (E1.vwo (E1.li (A1.cons (E1.var rfl) (A1.cons (E1.sub E1.int (E1.var rfl)) A1.nil)) rfl (lsz (n := 2) rfl z2))) (E1.b2i (A1.cons (E1.lt (E1.var rfl) E1.int) A1.nil)) (by by_cases c : n < 0 <;> simp [c] <;> rfl)) (Nat.le_trans lr z4))) A1.nil)) ⟨rfl, noLs_ints _⟩
      · have n0 : n = 0 := by simpa using h
        subst n0
        refine S.next ⟨fun k hk => ?_, _, rfl⟩
        rw [List.take_add_one, hn] at hk
        rcases List.mem_append.mp hk with hk | hk
        · exact hz k hk
        · simpa using hk
  · rw [List.length_map, List.take_length] at hz
    obtain ⟨n, hn, n0⟩ := nr
    exact n0 (hz n hn)
theorem scKeptT : FnScope ["_law_fours", "_law_point", "_law_four_here", "_law_some", "_law_bottom", "_law_row"] ["_law_fours", "_law_point"] (defScope sKeptT) := ⟨rfl, rfl, rfl, by decide +kernel, rfl, by decide +kernel, by decide +kernel⟩
theorem ok_keptt (F : Fun K "_law_kept" "_law_kept" sKeptT f fd)
    (G : FnOk P w K mg base CX0 3 g gd ["_law_four_here"] (spP K RPl3)) (bG : Binds K gd ["_law_four_here"] []) (kG : PySem.W.keepIn K (.ref g) = true) (mG : mg "_law_plain" = some (.ref g))
    (G2 : FnOk P w K mg base CX0 1 g2 gd2 ["_law_one", "_law_other"] (spSop K)) (bG2 : Binds K gd2 ["_law_one", "_law_other"] []) (kG2 : PySem.W.keepIn K (.ref g2) = true) (mG2 : mg "_law_sum" = some (.ref g2))
    (G3 : FnOk P w K mg base CX0 1 g3 gd3 ["_law_four_here"] (spP K RRows3)) (bG3 : Binds K gd3 ["_law_four_here"] []) (kG3 : PySem.W.keepIn K (.ref g3) = true) (mG3 : mg "_law_rows" = some (.ref g3)) :
    FnOk P w K mg base CX0 4 f fd ["_law_fours", "_law_point"] (spP K RKeptT) := by
  refine okP F scKeptT (fun ds d h => ?_) (fun cdv A0 outer s0 H0 E0 hr => ?_)
  · obtain ⟨fs, x, y, z, v, rfl, _⟩ := h; rfl
  have r := hr.mono (show 3 ≤ 3 by decide)
  have r2 := hr.mono (show 1 ≤ 3 by decide)
  have r3 := hr.mono (show 1 ≤ 3 by decide)
  refine ⟨_, (zss_cons (zs_for PassesOwn.never rfl (zi_list (zv 0)) (zg_name (i := 2) scKeptT.nd rfl (Or.inl rfl)) (zss_cons (zs_set (i := 3) scKeptT.nd rfl (Or.inl rfl) (ze_call G r rfl mG kG bG .nil pass0 (za_n (zv 2) za_nil)))
    (zss_cons (zs_set (i := 4) scKeptT.nd rfl (Or.inl rfl) (ze_call G2 r2 rfl mG2 kG2 bG2 .nil pass0 (za_n (zv 3) (za_n (zv 3) za_nil))))
    (zss_one (zs_for PassesOwn.never rfl (zi_list (ze_call G3 r3 rfl mG3 kG3 bG3 .nil pass0 (za_n (zv 3) za_nil))) (zg_name (i := 5) scKeptT.nd rfl (Or.inl rfl)) (zss_one (zs_if (zt_cmpR op_ne (ze_op op_mod (ze_call G2 r2 rfl mG2 kG2 bG2 .nil pass0 (za_n (zv 5) (za_n (zv 1) za_nil))) (zv 4)) ze_int (nomark _)) (zss_one (zs_ret ze_bl)) zss_nil)))))))
    (zss_one (zs_ret ze_bl))), fun ds d h => ?_⟩
  obtain ⟨fs, x, y, z, v, rfl, hF, bp, hv, rfl⟩ := h
  refine S.seq (M := fun τ' => KptA fs x y z ∧ ∃ o1 o2 o3 o4 : Sl, τ' = [.dat (.list (fs.map tI)), .dat (tI [x, y, z]), o1, o2, o3, o4]) ?_ fun τ' ⟨hK, o1, o2, o3, o4, eτ⟩ => ?_
  · refine S.for (Wk.lst (E1.var rfl)) (fun k τ' => KptA (fs.take k) x y z ∧ ∃ o1 o2 o3 o4 : Sl, τ' = [.dat (.list (fs.map tI)), .dat (tI [x, y, z]), o1, o2, o3, o4]) ⟨fun F hF => by simp at hF, _, _, _, _, rfl⟩ (fun k dd τ1 hd ⟨hK, o1, o2, o3, o4, e1⟩ => ?_) (fun τ1 ⟨hK, h⟩ => ⟨by rw [List.length_map, List.take_length] at hK; exact hK, h⟩)
    subst e1
    rw [List.getElem?_map] at hd
    obtain ⟨F, hk1, rfl⟩ := Option.map_eq_some_iff.mp hd
    obtain ⟨lF, nF, bF⟩ := hF F (List.mem_of_getElem? hk1)
    obtain ⟨p, q, r, s, ep, hN⟩ := pl_size lF nF
    have bq : Bd (2 ^ 97) [p, q, r, s] := ep ▸ bd_pl nF bF
    obtain ⟨w1, w2, w3⟩ := bt_rows bq
    have ki := kpt_is ep x y z
    have kt := kpt_take (x := x) (y := y) (z := z) hk1
    refine ⟨_, Gd.name rfl, ?_⟩
    refine S.let1 (s := .dat (tI [p, q, r, s])) (E1.to (E1.call (R := RPl3) (A1.cons (E1.var rfl) A1.nil) ⟨F, rfl, by omega, nF, sm_bd' bF, rfl⟩) (by rw [ep])) ?_
    refine S.let1 (s := .dat (.int (sop [p, q, r, s] [p, q, r, s]))) (E1.cSop (ns := [p, q, r, s]) (ms := [p, q, r, s]) (A1.cons (E1.var rfl) (A1.cons (E1.var rfl) A1.nil)) (show 4 ≤ 1000 by decide) rfl (sm_bd' bq) (sm_bd' bq)) ?_
    have fal : ¬ Kpt F x y z → v = false := fun h => by
      cases v with
      | false => rfl
      | true => exact absurd ((hv.mp rfl).at hk1) h
    generalize sop [p, q, r, s] [p, q, r, s] = N at *
    refine S.for (Wk.lst (E1.call (R := RRows3) (A1.cons (E1.var rfl) A1.nil) ⟨p, q, r, s, rfl, bd_up bq, rfl⟩)) (fun j τ' => (∀ L ∈ [rw1 p q r s, rw2 p q r s, rw3 p q r s].take j, N ∣ sop L [x, y, z]) ∧ ∃ o4 : Sl, τ' = [.dat (.list (fs.map tI)), .dat (tI [x, y, z]), .dat (tI F), .dat (tI [p, q, r, s]), .dat (.int N), o4]) ⟨fun L hL => by simp at hL, _, rfl⟩ (fun j dd τ1 hd ⟨hL, o4, e1⟩ => ?_) (fun τ1 ⟨hL, o4, e1⟩ => ⟨kt.mpr ⟨hK, ki.mpr ⟨hL _ (by simp), hL _ (by simp), hL _ (by simp)⟩⟩, _, _, _, _, e1⟩)
    subst e1
    have hj : j < 3 := (List.getElem?_eq_some_iff.mp hd).1
    have hl : ∃ l1 l2 l3, [rw1 p q r s, rw2 p q r s, rw3 p q r s][j]? = some [l1, l2, l3] ∧ dd = tI [l1, l2, l3] ∧ Bd (2 ^ 197) [l1, l2, l3] ∧ (Kpt F x y z → N ∣ sop [l1, l2, l3] [x, y, z]) := by
      match j, hj, hd with
      | 0, _, hd => cases hd; exact ⟨_, _, _, rfl, rfl, w1, fun h => (ki.mp h).1⟩
      | 1, _, hd => cases hd; exact ⟨_, _, _, rfl, rfl, w2, fun h => (ki.mp h).2.1⟩
      | 2, _, hd => cases hd; exact ⟨_, _, _, rfl, rfl, w3, fun h => (ki.mp h).2.2⟩
    obtain ⟨l1, l2, l3, gl, rfl, bL, nd⟩ := hl
    refine ⟨_, Gd.name rfl, ?_⟩
    refine S.if1 (b := !decide (sop [l1, l2, l3] [x, y, z] % N = 0)) (T1.test (E1.ne (E1.mod (E1.cSop (ns := [l1, l2, l3]) (ms := [x, y, z]) (A1.cons (E1.var rfl) (A1.cons (E1.var rfl) A1.nil)) (show 3 ≤ 1000 by decide) rfl (sm_bd' bL) (sm_bd' bp)) (E1.var rfl) hN) E1.int)) (fun h => ?_) (fun h => ?_)
    · have hh : ¬ sop [l1, l2, l3] [x, y, z] % N = 0 := by simpa using h
      rw [fal fun hk => hh (dvd_md.mp (nd hk))]
      exact S.ret1 (s := .dat (.bool false)) E1.bl ⟨rfl, rfl⟩
    · have hh : sop [l1, l2, l3] [x, y, z] % N = 0 := by simpa using h
      refine S.next ⟨fun L hm => ?_, _, rfl⟩
      rcases (take_mem gl L).mp hm with hm | rfl
      · exact hL L hm
      · exact dvd_md.mpr hh
  subst eτ
  rw [hv.mpr hK]
  exact S.ret1 (s := .dat (.bool true)) E1.bl ⟨rfl, rfl⟩
theorem scForm72 : FnScope ["_law_rows_here", "_law_a", "_law_p", "_law_q", "_law_b", "_law_c", "_law_r", "_law_d", "_law_e", "_law_f"] ["_law_rows_here"] (defScope sForm72) := ⟨rfl, rfl, rfl, by decide +kernel, rfl, by decide +kernel, by decide +kernel⟩
theorem ok_form72 (F : Fun K "_law_form" "_law_form" sForm72 f fd)
    (G : FnOk P w K mg base CX0 1 g gd ["_law_found", "_law_many"] (spP K RWholes)) (bG : Binds K gd ["_law_found", "_law_many"] []) (kG : PySem.W.keepIn K (.ref g) = true) (mG : mg "_law_wholes" = some (.ref g)) (m_len : mg "len" = none) (m_isinstance : mg "isinstance" = none) (m_tuple : mg "tuple" = none) (m_min : mg "min" = none) :
    FnOk P w K mg base CX0 2 f fd ["_law_rows_here"] (spP K RForm) := by
  refine okP F scForm72 (fun ds d h => ?_) (fun cdv A0 outer s0 H0 E0 hr => ?_)
  · obtain ⟨a, b, c, d, e, f, rfl, _⟩ := h; rfl
  have r := hr.mono (show 1 ≤ 1 by decide)
  refine ⟨_, (zss_cons (zs_if (ZW.pt (zw_or (zt_not (zt_val (ze_callB (call_isiD (T := "tuple")) rfl m_isinstance (by rfl) (za_n (zv 0) (za_n (ze_tyn rfl m_tuple (by rfl)) za_nil))))) (zw_or1 (zt_cmpR op_ne (ze_callB call_len_seq rfl m_len PySem.boot_len (za_n (zv 0) za_nil)) ze_int (nomark _))))) (zss_one (zs_ret ze_bl)) zss_nil)
    (zss_cons (zs_if (zt_cmpR op_ne (ze_callB call_len_seq rfl m_len PySem.boot_len (za_cons (ze_comp (own := ["_law_row"]) scForm72 rfl ⟨by decide +kernel, rfl, by decide +kernel, by decide +kernel, by decide +kernel, by decide +kernel, by decide +kernel, by decide +kernel, by decide +kernel⟩ (zi_tup (zv 0)) (fun C fp s H nd => zg_name (i := 0) nd rfl (Or.inl rfl)) (fun C fp s H => zts_one (zt_val (ze_call G r rfl mG kG bG .nil pass0 (za_n (zv 0) (za_i za_nil))))) (fun C fp s H => (zv 0))) za_nil)) ze_int (nomark _)) (zss_one (zs_ret ze_bl)) zss_nil)
    (zss_cons (zs_asg (zv 0) (zg_tup rfl (zgs_cons (zg_tup rfl (zgs_cons (zg_name (i := 1) scForm72.nd rfl (Or.inl rfl)) (zgs_cons (zg_name (i := 2) scForm72.nd rfl (Or.inl rfl)) (zgs_cons (zg_name (i := 3) scForm72.nd rfl (Or.inl rfl)) zgs_nil)))) (zgs_cons (zg_tup rfl (zgs_cons (zg_name (i := 4) scForm72.nd rfl (Or.inl rfl)) (zgs_cons (zg_name (i := 5) scForm72.nd rfl (Or.inl rfl)) (zgs_cons (zg_name (i := 6) scForm72.nd rfl (Or.inl rfl)) zgs_nil)))) (zgs_cons (zg_tup rfl (zgs_cons (zg_name (i := 7) scForm72.nd rfl (Or.inl rfl)) (zgs_cons (zg_name (i := 8) scForm72.nd rfl (Or.inl rfl)) (zgs_cons (zg_name (i := 9) scForm72.nd rfl (Or.inl rfl)) zgs_nil)))) zgs_nil)))))
    (zss_cons (zs_if (ZW.pt (zw_or (zt_cmpR (op_neD hr.units) (ze_tup (za_n (zv 2) (za_n (zv 3) (za_n (zv 6) za_nil)))) (ze_tup (za_i (za_i (za_i za_nil)))) (nomark _)) (zw_or1 (zt_cmpR op_lt (ze_callB (call_min3 rfl) rfl m_min (by rfl) (za_n (zv 1) (za_n (zv 5) (za_n (zv 9) za_nil)))) ze_int (nomark _))))) (zss_one (zs_ret ze_bl)) zss_nil)
    (zss_one (zs_ret (ze_and (ze_chain op_le op_lt ze_int (zv 4) (zv 1)) (ze_and (ze_chain op_le op_lt ze_int (zv 7) (zv 1)) (ze_one (ze_chain op_le op_lt ze_int (zv 8) (zv 5))))))))))), fun ds d h => ?_⟩
  obtain ⟨a, b, c, d, e, f, rfl, ⟨a0, c0, f0, b0, b1, d0, d1, e0, e1⟩, rfl⟩ := h
  refine S.ifsF (T1.orF (T1.notT (T1.val (E1.isiT (E1.var rfl)))) (T1.neT (E1.lenT (A1.cons (E1.var rfl) A1.nil)) E1.int rfl)) ?_
  refine S.ifsF (T1.neT (E1.lenL (A1.cons (E1.vwo (E1.compF (ds := [tI [a, 0, 0], tI [b, c, 0], tI [d, e, f]]) (f := fun d => d) (kp := fun _ => true) (Wk.tup (E1.var rfl)) (fun dd hd => ?_) (fun dd hd _ => (E1.var rfl)) z3)) A1.nil)) E1.int rfl) ?_
  · simp only [List.mem_cons, List.mem_nil_iff, or_false] at hd
    rcases hd with rfl | rfl | rfl
    · exact T1.val (E1.call (R := RWholes) (ds := [tI [a, 0, 0], .int 3]) (A1.cons (E1.var rfl) (A1.cons E1.int A1.nil)) ⟨[a, 0, 0], 3, rfl, rfl, by decide, rfl⟩)
    · exact T1.val (E1.call (R := RWholes) (ds := [tI [b, c, 0], .int 3]) (A1.cons (E1.var rfl) (A1.cons E1.int A1.nil)) ⟨[b, c, 0], 3, rfl, rfl, by decide, rfl⟩)
    · exact T1.val (E1.call (R := RWholes) (ds := [tI [d, e, f], .int 3]) (A1.cons (E1.var rfl) (A1.cons E1.int A1.nil)) ⟨[d, e, f], 3, rfl, rfl, by decide, rfl⟩)
  refine S.letG (E1.var rfl) (Gd.tri3 (Gd.tri (x := .int a) (y := .int 0) (z := .int 0)) (Gd.tri (x := .int b) (y := .int c) (z := .int 0)) (Gd.tri (x := .int d) (y := .int e) (z := .int f))) ?_
  refine S.ifsF (T1.orF (T1.neDT (d := tI [0, 0, 0]) (E1.tu (A1.cons (E1.var rfl) (A1.cons (E1.var rfl) (A1.cons (E1.var rfl) A1.nil))) rfl (lsz (n := 3) rfl z3)) (E1.tu (A1.cons E1.int (A1.cons E1.int (A1.cons E1.int A1.nil))) rfl (lsz (n := 3) rfl z3)) rfl rfl kqd_tup) ((T1.test (E1.lt (E1.min3 (A1.cons (E1.var rfl) (A1.cons (E1.var rfl) (A1.cons (E1.var rfl) A1.nil)))) E1.int)).eqn (min3_ge a0 c0 f0))) ?_
  exact S.ret1 (s := .dat (.bool true)) (E1.andV (b := true) (E1.chainLL E1.int (E1.var rfl) (E1.var rfl) b0 b1) (fun _ => E1.andV (b := true) (E1.chainLL E1.int (E1.var rfl) (E1.var rfl) d0 d1) (fun _ => E1.chainLL E1.int (E1.var rfl) (E1.var rfl) e0 e1) (fun z => by cases z)) (fun z => by cases z)) ⟨rfl, rfl⟩
theorem scInL : FnScope ["_law_rows_here", "_law_point", "_law_first", "_law_middle", "_law_last", "_law_z", "_law_y", "_law_x"] ["_law_rows_here", "_law_point"] (defScope sInL) := ⟨rfl, rfl, rfl, by decide +kernel, rfl, by decide +kernel, by decide +kernel⟩
theorem ok_inl (F : Fun K "_law_in" "_law_in" sInL f fd) (m_tuple : mg "tuple" = none) (m_range : mg "range" = none) :
    FnOk P w K mg base CX0 1 f fd ["_law_rows_here", "_law_point"] (spP K RInL) := by
  refine okP F scInL (fun ds d h => ?_) (fun cdv A0 outer s0 H0 E0 hr => ?_)
  · obtain ⟨a, b, c, d, e, f, x, y, z, v, rfl, _⟩ := h; rfl
  refine ⟨_, (zss_cons (zs_asg (zv 0) (zg_tup rfl (zgs_cons (zg_name (i := 2) scInL.nd rfl (Or.inr rfl)) (zgs_cons (zg_name (i := 3) scInL.nd rfl (Or.inr rfl)) (zgs_cons (zg_name (i := 4) scInL.nd rfl (Or.inr rfl)) zgs_nil)))))
    (zss_cons (zs_set (i := 5) scInL.nd rfl (Or.inr rfl) (ze_op op_fdivB (ze_ix ix_list (zv 1) ze_int (fun _ _ => rfl)) (ze_ix ix_tup (zv 4) ze_int (fun _ _ => rfl))))
    (zss_cons (zs_set (i := 6) scInL.nd rfl (Or.inr rfl) (ze_op op_fdivB (ze_op op_sub (ze_ix ix_list (zv 1) ze_int (fun _ _ => rfl)) (ze_op op_mulB (zv 5) (ze_ix ix_tup (zv 4) ze_int (fun _ _ => rfl)))) (ze_ix ix_tup (zv 3) ze_int (fun _ _ => rfl))))
    (zss_cons (zs_set (i := 7) scInL.nd rfl (Or.inr rfl) (ze_op op_fdivB (ze_op op_sub (ze_op op_sub (ze_ix ix_list (zv 1) ze_int (fun _ _ => rfl)) (ze_op op_mulB (zv 5) (ze_ix ix_tup (zv 4) ze_int (fun _ _ => rfl)))) (ze_op op_mulB (zv 6) (ze_ix ix_tup (zv 3) ze_int (fun _ _ => rfl)))) (ze_ix ix_tup (zv 2) ze_int (fun _ _ => rfl))))
    (zss_one (zs_ret (ze_cmpR (op_eqD hr.units) (ze_callTy call_tuple_of rfl m_tuple (by rfl) (za_cons (ze_comp (own := ["_law_k"]) scInL rfl ⟨by decide +kernel, rfl, by decide +kernel, by decide +kernel, by decide +kernel, by decide +kernel, by decide +kernel, by decide +kernel, by decide +kernel⟩ (zi_range1 rfl m_range (za_i za_nil)) (fun C fp s H nd => zg_name (i := 0) nd rfl (Or.inl rfl)) (fun C fp s H => zts_nil) (fun C fp s H => (ze_op op_add (ze_op op_add (ze_op op_mulB (zv 8) (ze_ix ix_tupC (zv 3) (zv 0) (fun _ _ => rfl))) (ze_op op_mulB (zv 7) (ze_ix ix_tupC (zv 4) (zv 0) (fun _ _ => rfl)))) (ze_op op_mulB (zv 6) (ze_ix ix_tupC (zv 5) (zv 0) (fun _ _ => rfl)))))) za_nil)) (ze_callTy call_tuple_of rfl m_tuple (by rfl) (za_n (zv 1) za_nil)) (nomark _)))))))), fun ds d h => ?_⟩
  obtain ⟨a, b, c, d, e, f, x, y, z, v, rfl, a0, c0, f0, ba, bb, bc, bd, be, bf, bx, by', bz, hv, rfl⟩ := h
  obtain ⟨m3, e3⟩ : ∃ m, m = z / f := ⟨_, rfl⟩
  obtain ⟨m2, e2⟩ : ∃ m, m = (y - m3 * e) / c := ⟨_, rfl⟩
  obtain ⟨m1, e1⟩ : ∃ m, m = (x - m3 * d - m2 * b) / a := ⟨_, rfl⟩
  obtain ⟨w1, w2, w3, hd⟩ := in_look a0 c0 f0 bb bd be bx by' bz e3 e2 e1 hv
  have nz : Bt 0 2500 := Nat.zero_le _
  have o1 := w1.mulOk ba
  have o2 := w2.mulOk bb
  have o3 := w3.mulOk bd
  have o4 := w1.mulOk nz
  have o5 := w2.mulOk bc
  have o6 := w3.mulOk be
  have o7 := w2.mulOk nz
  have o8 := w3.mulOk bf
  refine S.letG (E1.var rfl) (Gd.tri (x := tI [a, 0, 0]) (y := tI [b, c, 0]) (z := tI [d, e, f])) ?_
  refine S.let1 (s := .dat (.int m3)) (E1.to (E1.fdiv (i := z) (j := f) (E1.ixL (ds := [.int x, .int y, .int z]) (E1.varL rfl) E1.int rfl) (E1.ixT (E1.var rfl) E1.int rfl) ⟨by omega, Bt.log bf (by omega)⟩) (by rw [Int.fdiv_eq_ediv_of_nonneg _ (by omega), e3])) ?_
  refine S.let1 (s := .dat (.int m2)) (E1.to (E1.fdiv (i := y - m3 * e) (j := c) (E1.sub (E1.ixL (ds := [.int x, .int y, .int z]) (E1.varL rfl) E1.int rfl) (E1.mul (E1.var rfl) (E1.ixT (E1.var rfl) E1.int rfl) o6)) (E1.ixT (E1.var rfl) E1.int rfl) ⟨by omega, Bt.log bc (by omega)⟩) (by rw [Int.fdiv_eq_ediv_of_nonneg _ (by omega), e2])) ?_
  refine S.let1 (s := .dat (.int m1)) (E1.to (E1.fdiv (i := x - m3 * d - m2 * b) (j := a) (E1.sub (E1.sub (E1.ixL (ds := [.int x, .int y, .int z]) (E1.varL rfl) E1.int rfl) (E1.mul (E1.var rfl) (E1.ixT (E1.var rfl) E1.int rfl) o3)) (E1.mul (E1.var rfl) (E1.ixT (E1.var rfl) E1.int rfl) o2)) (E1.ixT (E1.var rfl) E1.int rfl) ⟨by omega, Bt.log ba (by omega)⟩) (by rw [Int.fdiv_eq_ediv_of_nonneg _ (by omega), e1])) ?_
  exact S.ret1 (s := .dat (.bool v)) (E1.to (E1.eqD (d := tI [m1 * a + m2 * b + m3 * d, m2 * c + m3 * e, m3 * f]) (e := tI [x, y, z]) (E1.tupleL (A1.cons (E1.vwo (E1.comp3 (d1 := .int 0) (d2 := .int 1) (d3 := .int 2) (e1 := .int (m1 * a + m2 * b + m3 * d)) (e2 := .int (m2 * c + m3 * e)) (e3 := .int (m3 * f)) (Wk.r3 (A1.cons E1.int A1.nil)) (E1.to (E1.add (E1.add (E1.mul (E1.var rfl) (E1.ixT (E1.var rfl) (E1.var rfl) rfl) o1) (E1.mul (E1.var rfl) (E1.ixT (E1.var rfl) (E1.var rfl) rfl) o2)) (E1.mul (E1.var rfl) (E1.ixT (E1.var rfl) (E1.var rfl) rfl) o3)) (by rfl)) (E1.to (E1.add (E1.add (E1.mul (E1.var rfl) (E1.ixT (E1.var rfl) (E1.var rfl) rfl) o4) (E1.mul (E1.var rfl) (E1.ixT (E1.var rfl) (E1.var rfl) rfl) o5)) (E1.mul (E1.var rfl) (E1.ixT (E1.var rfl) (E1.var rfl) rfl) o6)) (by rw [Int.mul_zero, Int.zero_add])) (E1.to (E1.add (E1.add (E1.mul (E1.var rfl) (E1.ixT (E1.var rfl) (E1.var rfl) rfl) o4) (E1.mul (E1.var rfl) (E1.ixT (E1.var rfl) (E1.var rfl) rfl) o7)) (E1.mul (E1.var rfl) (E1.ixT (E1.var rfl) (E1.var rfl) rfl) o8)) (by rw [Int.mul_zero, Int.mul_zero, Int.zero_add, Int.zero_add])))) A1.nil)) (E1.tupleL (A1.cons (E1.varL rfl) A1.nil)) rfl rfl kqd_tup kqd_tup) (congrArg (fun b => Sl.dat (Dat.bool b)) (deq_tup.trans hd))) ⟨rfl, rfl⟩
theorem scPts72 : FnScope ["_law_purse_here", "_law_rows_here", "_law_found", "_law_k", "_law_most", "_law_often", "_law_point", "_law_at_here"] ["_law_purse_here", "_law_rows_here"] (defScope sPts72) := ⟨rfl, rfl, rfl, by decide +kernel, rfl, by decide +kernel, by decide +kernel⟩
theorem ok_pts72 (F : Fun K "_law_points" "_law_points" sPts72 f fd)
    (G : FnOk P w K mg base CX0 2 g gd ["_law_purse_here", "_law_out_of"] (spD K 4 RDraw3)) (bG : Binds K gd ["_law_purse_here", "_law_out_of"] []) (kG : PySem.W.keepIn K (.ref g) = true) (mG : mg "_law_draw" = some (.ref g))
    (G2 : FnOk P w K mg base CX0 3 g2 gd2 ["_law_purse_here", "_law_most"] (spD K 4 RSm3)) (bG2 : Binds K gd2 ["_law_purse_here", "_law_most"] []) (kG2 : PySem.W.keepIn K (.ref g2) = true) (mG2 : mg "_law_small" = some (.ref g2)) (m_range : mg "range" = none) (m_sum : mg "sum" = none) :
    FnOk P w K mg base CX0 4 f fd ["_law_purse_here", "_law_rows_here"] (spDX K 216 RPts) := by
  refine okDX F scPts72 (fun ds d h => ?_) (fun cdv A0 outer s0 H0 E0 hr => ?_)
  · obtain ⟨a, b, c, d, e, f, rfl, _⟩ := h; rfl
  have r := hr.mono (show 2 ≤ 3 by decide)
  have r2 := hr.mono (show 3 ≤ 3 by decide)
  refine ⟨_, (zss_cons (zs_set (i := 2) scPts72.nd rfl (Or.inl rfl) (ze_lst za_nil))
    (zss_cons (zs_for PassesOwn.never rfl (zi_range1 rfl m_range (za_i za_nil)) (zg_name (i := 3) scPts72.nd rfl (Or.inl rfl)) (zss_cons (zs_set (i := 4) scPts72.nd rfl (Or.inr rfl) (ze_ix ix_list (ze_lst (za_i (za_b (ze_op op_pow ze_int ze_int) za_nil))) (ze_call G r rfl mG kG bG .nil pass0 (za_n (zv 0) (za_i za_nil))) pix_call) sw_sub)
    (zss_cons (zs_set (i := 5) scPts72.nd rfl (Or.inr rfl) (ze_comp (own := ["_law_turn"]) scPts72 rfl ⟨by decide +kernel, rfl, by decide +kernel, by decide +kernel, by decide +kernel, by decide +kernel, by decide +kernel, by decide +kernel, by decide +kernel⟩ (zi_range1 rfl m_range (za_i za_nil)) (fun C fp s H nd => zg_name (i := 0) nd rfl (Or.inl rfl)) (fun C fp s H => zts_nil) (fun C fp s H => (ze_call G2 r2 rfl mG2 kG2 bG2 .nil pass0 (za_n (zv 1) (za_n (zv 5) za_nil))))))
    (zss_cons (zs_compK (i := 6) (xk := "_law_at_here") scPts72 rfl ⟨by decide +kernel, rfl, rfl, by decide +kernel, by decide +kernel, by decide +kernel, by decide +kernel, by decide +kernel, by decide +kernel⟩ (zi_range1 rfl m_range (za_i za_nil)) (fun C fp s H nd => zg_name (i := 0) nd rfl (Or.inr rfl)) (fun C fp s H => zts_nil) (fun C fp s H => (ze_callB (call_sumLK rfl) rfl m_sum (by rfl) (za_cons (ze_compNK (own2 := ["_law_j"]) scPts72 rfl ⟨by decide +kernel, rfl, by decide +kernel, by decide +kernel, by decide +kernel, by decide +kernel, by decide +kernel, by decide +kernel, by decide +kernel⟩ (zi_range1 rfl m_range (za_i za_nil)) (fun C fp s H nd => zg_name (i := 0) nd rfl (Or.inl rfl)) (fun C fp s H => zts_nil) (fun C fp s H => (ze_op op_mulB (ze_ix ix_listKC (zv 7) (zv 0) (fun _ _ => rfl)) (ze_ix ix_tupKC (ze_ix ix_tupKC (zv 3) (zv 0) (fun _ _ => rfl)) (zv 1) (fun _ _ => rfl))))) za_nil))) scPts72.nd rfl (Or.inl rfl) rfl)
    (zss_cons (zs_if (zt_cmpR op_eq (ze_op op_mod (zv 3) ze_int) ze_int (nomark _)) (zss_cons (zs_set (i := 7) scPts72.nd rfl (Or.inl rfl) (ze_call G r rfl mG kG bG .nil pass0 (za_n (zv 0) (za_i za_nil))))
    (zss_one (zs_asg (ze_op op_add (ze_ix ix_list (zv 6) (zv 7) (fun _ _ => rfl)) ze_int) (zg_sub (zv 6) (zv 7) set_list (fun _ => rfl))))) zss_nil)
    (zss_cons (zs_if (zt_cmpR op_eq (ze_op op_mod (zv 3) ze_int) ze_int (nomark _)) (zss_cons (zs_set (i := 4) scPts72.nd rfl (Or.inr rfl) (ze_ix ix_list (ze_lst (za_i (za_b (ze_op op_pow ze_int ze_int) za_nil))) (ze_call G r rfl mG kG bG .nil pass0 (za_n (zv 0) (za_i za_nil))) pix_call) sw_sub)
    (zss_one (zs_comp (i := 6) (own := ["_law_turn"]) scPts72 rfl ⟨by decide +kernel, rfl, by decide +kernel, by decide +kernel, by decide +kernel, by decide +kernel, by decide +kernel, by decide +kernel, by decide +kernel⟩ (zi_range1 rfl m_range (za_i za_nil)) (fun C fp s H nd => zg_name (i := 0) nd rfl (Or.inl rfl)) (fun C fp s H => zts_nil) (fun C fp s H => (ze_call G2 r2 rfl mG2 kG2 bG2 .nil pass0 (za_n (zv 1) (za_n (zv 5) za_nil)))) scPts72.nd rfl (Or.inl rfl) rfl))) zss_nil)
    (zss_one (zs_expr (ze_append (zv 2) (zv 6))))))))))
    (zss_one (zs_ret (zv 2))))), fun q n ds C hc h => ?_⟩
  obtain ⟨a, b, c, d, e, f, rfl, ba, bb, bc, bd, be, bf, rfl⟩ := h
  have n0 : Bt 0 2500 := Nat.zero_le _
  refine S2X.seq (M1 := n) (X := fun τ' => τ' = [.un, .dat (r3D a b c d e f), .own (([] : List (List Int)).map plD), .un, .un, .un, .un, .un]) (S2.asgO2 (C := fun ds => ds = []) (E2.of (E.mono (E1.li A1.nil rfl (lsz (n := 0) rfl z0)) (fun s es => ⟨[], es.symm, rfl, rfl⟩))) (fun ds es => by rw [es]; rfl)) fun τ' eτ => ?_
  subst eτ
  refine S2X.seq (M1 := n + 216) (X := fun τ' => ∃ (ps : List (List Int)) (o3 o4 o5 o6 o7 : Sl), ps.length = 6 ∧ (∀ p ∈ ps, PtOk p) ∧ τ' = [.un, .dat (r3D a b c d e f), .own (ps.map plD), o3, o4, o5, o6, o7]) (S2.for (c := 36) (Wk.rng (n := 6) (A1.cons E1.int A1.nil) rfl) (fun k τ' => ∃ (ps : List (List Int)) (o3 o4 o5 o6 o7 : Sl), ps.length = k ∧ (∀ p ∈ ps, PtOk p) ∧ τ' = [.un, .dat (r3D a b c d e f), .own (ps.map plD), o3, o4, o5, o6, o7]) ⟨[], _, _, _, _, _, rfl, fun p h => (by cases h), rfl⟩ (fun k dd τ1 hd ⟨ps, o3, o4, o5, o6, o7, lk, hp, e1⟩ => ?_) (fun τ1 h => h) (hm := by rw [show (rangeD 0 6).length = 6 from rfl]; omega)) fun τ' ⟨ps, o3, o4, o5, o6, o7, l6, hp, eτ⟩ => ?_
  · subst e1
    obtain ⟨hk6, ed⟩ := rangeD_get hd
    subst ed
    clear hd
    refine S2.letI (M1 := (n + k * 36) + 4) (EI2.pick (ms := [3, 10 ^ Int.toNat 9]) (by walk_at "au3") (E2.drawn (m := 2) (A1.cons E1.int A1.nil) (by decide) (by decide)) (fun d hd => hd)) (fun m hm => ?_)
    have mp := most_pos hm
    refine S2.letO2 (M1 := (n + k * 36) + 16) (C := fun es => ∃ o1 o2 o3 : Int, es = [.int o1, .int o2, .int o3] ∧ Bt o1 30 ∧ Bt o2 30 ∧ Bt o3 30) (E2.mono (E2.up (E2.comp (c := 4) (Cd := fun e => ∃ i : Int, e = .int i ∧ -m ≤ i ∧ i ≤ m) (Wk.r3 (A1.cons E1.int A1.nil)) (fun i d hd => E2.up (E2.call1 (ds := [.int m]) (A1.cons (E1.var rfl) A1.nil) ⟨m, rfl, mp.1, mp.2, rfl⟩ (by have : i < 3 := (List.getElem?_eq_some_iff.mp hd).1; omega)) (by omega)) (lsz (n := 3) rfl z3)) (by show (n + k * 36) + 4 + 3 * 4 ≤ _; omega)) (fun s ⟨es, ee, le, he⟩ => ?_)) (fun es ⟨o1, o2, o3, ee, w1, w2, w3⟩ => ?_)
    · match es, le, he with
      | [t1, t2, t3], _, he =>
      obtain ⟨o1, rfl, h1⟩ := he t1 (by simp)
      obtain ⟨o2, rfl, h2⟩ := he t2 (by simp)
      obtain ⟨o3, rfl, h3⟩ := he t3 (by simp)
      exact ⟨_, ee, rfl, o1, o2, o3, rfl, often_bt hm h1, often_bt hm h2, often_bt hm h3⟩
    subst ee
    refine S2.letO (ds := [.int [o1 * a, o2 * b, o3 * d].sum, .int [o1 * 0, o2 * c, o3 * e].sum, .int [o1 * 0, o2 * 0, o3 * f].sum]) (E1.comp3 (Wk.r3 (A1.cons E1.int A1.nil)) (E1.su (ds := [.int (o1 * a), .int (o2 * b), .int (o3 * d)]) (ns := [o1 * a, o2 * b, o3 * d]) (A1.cons (E1.vwo (E1.comp3 (e1 := .int (o1 * a)) (e2 := .int (o2 * b)) (e3 := .int (o3 * d)) (Wk.r3 (A1.cons E1.int A1.nil)) (E1.mul (E1.ixL (ds := [.int o1, .int o2, .int o3]) (d := .int o1) (E1.varO rfl) (E1.var rfl) rfl) (E1.ixT (E1.ixT (d := tI [a, 0, 0]) (E1.var rfl) (E1.var rfl) rfl) (E1.var rfl) rfl) (w1.mulOk ba)) (E1.mul (E1.ixL (ds := [.int o1, .int o2, .int o3]) (d := .int o2) (E1.varO rfl) (E1.var rfl) rfl) (E1.ixT (E1.ixT (d := tI [b, c, 0]) (E1.var rfl) (E1.var rfl) rfl) (E1.var rfl) rfl) (w2.mulOk bb)) (E1.mul (E1.ixL (ds := [.int o1, .int o2, .int o3]) (d := .int o3) (E1.varO rfl) (E1.var rfl) rfl) (E1.ixT (E1.ixT (d := tI [d, e, f]) (E1.var rfl) (E1.var rfl) rfl) (E1.var rfl) rfl) (w3.mulOk bd)))) A1.nil) rfl) (E1.su (ds := [.int (o1 * 0), .int (o2 * c), .int (o3 * e)]) (ns := [o1 * 0, o2 * c, o3 * e]) (A1.cons (E1.vwo (E1.comp3 (e1 := .int (o1 * 0)) (e2 := .int (o2 * c)) (e3 := .int (o3 * e)) (Wk.r3 (A1.cons E1.int A1.nil)) (E1.mul (E1.ixL (ds := [.int o1, .int o2, .int o3]) (d := .int o1) (E1.varO rfl) (E1.var rfl) rfl) (E1.ixT (E1.ixT (d := tI [a, 0, 0]) (E1.var rfl) (E1.var rfl) rfl) (E1.var rfl) rfl) (w1.mulOk n0)) (E1.mul (E1.ixL (ds := [.int o1, .int o2, .int o3]) (d := .int o2) (E1.varO rfl) (E1.var rfl) rfl) (E1.ixT (E1.ixT (d := tI [b, c, 0]) (E1.var rfl) (E1.var rfl) rfl) (E1.var rfl) rfl) (w2.mulOk bc)) (E1.mul (E1.ixL (ds := [.int o1, .int o2, .int o3]) (d := .int o3) (E1.varO rfl) (E1.var rfl) rfl) (E1.ixT (E1.ixT (d := tI [d, e, f]) (E1.var rfl) (E1.var rfl) rfl) (E1.var rfl) rfl) (w3.mulOk be)))) A1.nil) rfl) (E1.su (ds := [.int (o1 * 0), .int (o2 * 0), .int (o3 * f)]) (ns := [o1 * 0, o2 * 0, o3 * f]) (A1.cons (E1.vwo (E1.comp3 (e1 := .int (o1 * 0)) (e2 := .int (o2 * 0)) (e3 := .int (o3 * f)) (Wk.r3 (A1.cons E1.int A1.nil)) (E1.mul (E1.ixL (ds := [.int o1, .int o2, .int o3]) (d := .int o1) (E1.varO rfl) (E1.var rfl) rfl) (E1.ixT (E1.ixT (d := tI [a, 0, 0]) (E1.var rfl) (E1.var rfl) rfl) (E1.var rfl) rfl) (w1.mulOk n0)) (E1.mul (E1.ixL (ds := [.int o1, .int o2, .int o3]) (d := .int o2) (E1.varO rfl) (E1.var rfl) rfl) (E1.ixT (E1.ixT (d := tI [b, c, 0]) (E1.var rfl) (E1.var rfl) rfl) (E1.var rfl) rfl) (w2.mulOk n0)) (E1.mul (E1.ixL (ds := [.int o1, .int o2, .int o3]) (d := .int o3) (E1.varO rfl) (E1.var rfl) rfl) (E1.ixT (E1.ixT (d := tI [d, e, f]) (E1.var rfl) (E1.var rfl) rfl) (E1.var rfl) rfl) (w3.mulOk bf)))) A1.nil) rfl)) rfl ?_
    have x1 := sum3_bt ((w1.mul ba).up (by decide)) ((w2.mul bb).up (by decide)) ((w3.mul bd).up (by decide))
    have x2 := sum3_bt ((w1.mul n0).up (by decide)) ((w2.mul bc).up (by decide)) ((w3.mul be).up (by decide))
    have x3 := sum3_bt ((w1.mul n0).up (by decide)) ((w2.mul n0).up (by decide)) ((w3.mul bf).up (by decide))
    generalize [o1 * a, o2 * b, o3 * d].sum = x at *
    generalize [o1 * 0, o2 * c, o3 * e].sum = y at *
    generalize [o1 * 0, o2 * 0, o3 * f].sum = z at *
    refine S2.ifB (M1 := (n + k * 36) + 20) (X := fun τ' => ∃ (p : List Int) (o7 : Sl), PtOk p ∧ τ' = [.un, .dat (r3D a b c d e f), .own (ps.map plD), .dat (.int (0 + (k : Int))), .dat (.int m), .own [.int o1, .int o2, .int o3], .own (p.map .int), o7]) (T1.test (E1.eq (E1.mod (E1.var rfl) E1.int (by decide)) E1.int)) (fun _ => ⟨[x, y, z], _, ⟨x, y, z, rfl, x1.up (by decide), x2.up (by decide), x3.up (by decide)⟩, rfl⟩) (fun _ => ?_) (fun τ' ⟨p, o7, hpt, eτ⟩ => ?_)
    · refine S2.letI (M1 := (n + k * 36) + 20) (E2.drawn (m := 3) (A1.cons E1.int A1.nil) (by decide) (by decide)) (fun at_ hat => ?_)
      obtain ⟨j, rfl⟩ := Int.eq_ofNat_of_zero_le hat.1
      have hone := PtOk.one (x := x) (y := y) (z := z) (j := j) (by omega) x1 x2 x3
      obtain ⟨kk, x', y', z', ek, hat2, hix, hset, hok⟩ := hone
      exact S2.setL (k := (j : Int)) (d := .int (([x, y, z][j]?).getD 0 + 1)) (j := j) rfl (E1.add (E1.ixL (ds := [.int x, .int y, .int z]) (d := .int (([x, y, z][j]?).getD 0)) (E1.varO rfl) (E1.var rfl) (by rw [ek]; exact hat2)) E1.int) (E1.var rfl) (by rw [ek]; exact hix) ⟨[x', y', z'], _, hok, by rw [← hset]; rfl⟩
    subst eτ
    refine S2.ifB (M1 := (n + k * 36) + 36) (X := fun τ' => ∃ (p : List Int) (o4 o5 o7 : Sl), PtOk p ∧ τ' = [.un, .dat (r3D a b c d e f), .own (ps.map plD), .dat (.int (0 + (k : Int))), o4, o5, .own (p.map .int), o7]) (T1.test (E1.eq (E1.mod (E1.var rfl) E1.int (by decide)) E1.int)) (fun _ => ⟨p, _, _, _, hpt, rfl⟩) (fun _ => ?_) (fun τ' ⟨p, o4, o5, o7, hpt, eτ⟩ => ?_)
    · refine S2.letI (M1 := (n + k * 36) + 24) (EI2.pick (ms := [20, 10 ^ Int.toNat 29]) (by walk_at "au3") (E2.drawn (m := 2) (A1.cons E1.int A1.nil) (by decide) (by decide)) (fun d hd => hd)) (fun m hm2 => ?_)
      have mp2 := most2_pos hm2
      refine S2.asgO2 (C := fun es => ∃ p : List Int, es = p.map .int ∧ PtOk p) (E2.mono (E2.up (M1 := (n + k * 36) + 36) (E2.comp (c := 4) (Cd := fun e => ∃ i : Int, e = .int i ∧ -m ≤ i ∧ i ≤ m) (Wk.r3 (A1.cons E1.int A1.nil)) (fun i d hd => E2.up (E2.call1 (ds := [.int m]) (A1.cons (E1.var rfl) A1.nil) ⟨m, rfl, mp2.1, mp2.2, rfl⟩ (by have : i < 3 := (List.getElem?_eq_some_iff.mp hd).1; omega)) (by omega)) (lsz (n := 3) rfl z3)) (by show (n + k * 36) + 20 + 4 + 3 * 4 ≤ _; omega)) (fun s ⟨es, ee, le, he⟩ => ?_)) (fun es ⟨p, ee, hok⟩ => by subst ee; exact ⟨p, _, _, _, hok, rfl⟩)
      match es, le, he with
      | [t1, t2, t3], _, he =>
      obtain ⟨o1, rfl, h1⟩ := he t1 (by simp)
      obtain ⟨o2, rfl, h2⟩ := he t2 (by simp)
      obtain ⟨o3, rfl, h3⟩ := he t3 (by simp)
      exact ⟨_, ee, rfl, [o1, o2, o3], rfl, o1, o2, o3, rfl, drawn_bt hm2 h1, drawn_bt hm2 h2, drawn_bt hm2 h3⟩
    subst eτ
    exact S2.put (i := 2) (j := 6) rfl rfl (by decide) (by rw [List.length_map]; exact Nat.lt_of_lt_of_le (show ps.length < 1000 by omega) (by decide)) ⟨ps ++ [p], _, _, _, _, _, by rw [List.length_append, lk]; rfl, snoc_ok hp hpt, rfl⟩ (by rw [List.map_append]; rfl) (by omega)
  subst eτ
  exact S2X.retO rfl ⟨_, ⟨_, rfl, ps, rfl, l6, hp⟩, rfl⟩
theorem scLaw : FnScope ["_law_script", "_law_k", "_law_purse_here", "_law_fours", "_law_turn", "_law_handed", "_law_rows_here", "_law_alone", "_law_some", "_law_point", "_law_due"] ["_law_script"] (defScope sLaw) := ⟨rfl, rfl, rfl, by decide +kernel, rfl, by decide +kernel, by decide +kernel⟩
theorem ok_law (F : Fun K "law" "law" sLaw f fd)
    (G : FnOk P w K mg base CX0 2 g gd ["_law_script", "_law_at_here"] (spN K RPur3)) (bG : Binds K gd ["_law_script", "_law_at_here"] []) (kG : PySem.W.keepIn K (.ref g) = true) (mG : mg "_law_purse" = some (.ref g))
    (G2 : FnOk P w K mg base CX0 2 g2 gd2 ["_law_purse_here", "_law_out_of"] (spD K 4 RDraw3)) (bG2 : Binds K gd2 ["_law_purse_here", "_law_out_of"] []) (kG2 : PySem.W.keepIn K (.ref g2) = true) (mG2 : mg "_law_draw" = some (.ref g2))
    (G3 : FnOk P w K mg base CX0 4 g3 gd3 ["_law_purse_here", "_law_most"] (spD K 16 RFour3)) (bG3 : Binds K gd3 ["_law_purse_here", "_law_most"] []) (kG3 : PySem.W.keepIn K (.ref g3) = true) (mG3 : mg "_law_four" = some (.ref g3))
    (G4 : FnOk P w K mg base CX0 4 g4 gd4 ["fours"] (spP K RKeptR)) (bG4 : Binds K gd4 ["fours"] []) (kG4 : PySem.W.keepIn K (.ref g4) = true) (mG4 : mg "kept_rows" = some (.ref g4))
    (G5 : FnOk P w K mg base CX0 2 g5 gd5 ["_law_rows_here"] (spP K RForm)) (bG5 : Binds K gd5 ["_law_rows_here"] []) (kG5 : PySem.W.keepIn K (.ref g5) = true) (mG5 : mg "_law_form" = some (.ref g5))
    (G6 : FnOk P w K mg base CX0 4 g6 gd6 ["_law_fours", "_law_point"] (spP K RKeptT)) (bG6 : Binds K gd6 ["_law_fours", "_law_point"] []) (kG6 : PySem.W.keepIn K (.ref g6) = true) (mG6 : mg "_law_kept" = some (.ref g6))
    (G7 : FnOk P w K mg base CX0 4 g7 gd7 ["_law_purse_here", "_law_rows_here"] (spDX K 216 RPts)) (bG7 : Binds K gd7 ["_law_purse_here", "_law_rows_here"] []) (kG7 : PySem.W.keepIn K (.ref g7) = true) (mG7 : mg "_law_points" = some (.ref g7))
    (G8 : FnOk P w K mg base CX0 1 g8 gd8 ["_law_rows_here", "_law_point"] (spP K RInL)) (bG8 : Binds K gd8 ["_law_rows_here", "_law_point"] []) (kG8 : PySem.W.keepIn K (.ref g8) = true) (mG8 : mg "_law_in" = some (.ref g8)) (m_range : mg "range" = none) (m_list : mg "list" = none) (m_len : mg "len" = none) :
    FnOk P w K mg base CX0 5 f fd ["_law_script"] (spLaw K) := by
  refine okL F scLaw rfl (fun cdv A0 outer s0 H0 E0 hr => ?_)
  have r := hr.mono (show 2 ≤ 4 by decide)
  have r2 := hr.mono (show 2 ≤ 4 by decide)
  have r3 := hr.mono (show 4 ≤ 4 by decide)
  have r4 := hr.mono (show 4 ≤ 4 by decide)
  have r5 := hr.mono (show 2 ≤ 4 by decide)
  have r6 := hr.mono (show 4 ≤ 4 by decide)
  have r7 := hr.mono (show 4 ≤ 4 by decide)
  have r8 := hr.mono (show 1 ≤ 4 by decide)
  refine ⟨_, (zss_cons (zs_for PassesOwn.never rfl (zi_range1 rfl m_range (za_i za_nil)) (zg_name (i := 1) scLaw.nd rfl (Or.inl rfl)) (zss_cons (zs_set (i := 2) scLaw.nd rfl (Or.inl rfl) (ze_call G r rfl mG kG bG .nil pass0 (za_n (zv 0) (za_n (zv 1) za_nil))))
    (zss_cons (zs_set (i := 3) scLaw.nd rfl (Or.inr rfl) (ze_lst za_nil))
    (zss_cons (zs_for PassesOwn.never rfl (zi_range1 rfl m_range (za_b (ze_op op_add ze_int (ze_call G2 r2 rfl mG2 kG2 bG2 .nil pass0 (za_n (zv 2) (za_i za_nil)))) za_nil)) (zg_name (i := 4) scLaw.nd rfl (Or.inl rfl)) (zss_one (zs_expr (ze_append (zv 3) (ze_call G3 r3 rfl mG3 kG3 bG3 .nil pass0 (za_n (zv 2) (za_s (ze_ix ix_list (ze_lst (za_i (za_i (za_b (ze_op op_pow ze_int ze_int) za_nil)))) (ze_call G2 r2 rfl mG2 kG2 bG2 .nil pass0 (za_n (zv 2) (za_i za_nil))) pix_call) za_nil)))))))
    (zss_cons (zs_set (i := 5) scLaw.nd rfl (Or.inl rfl) (ze_callTy call_list_of rfl m_list (by rfl) (za_n (zv 3) za_nil)))
    (zss_cons (zs_set (i := 6) scLaw.nd rfl (Or.inl rfl) (ze_call G4 r4 rfl mG4 kG4 bG4 .nil pass0 (za_n (zv 5) za_nil)))
    (zss_cons (zs_if (ZW.pt (zw_or (zt_not (zt_val (ze_call G5 r5 rfl mG5 kG5 bG5 .nil pass0 (za_n (zv 6) za_nil)))) (zw_or (zt_cmpR (op_neD hr.units) (zv 5) (zv 3) (nomark _)) (zw_or1 (zt_cmpR (op_neD hr.units) (ze_call G4 r4 rfl mG4 kG4 bG4 .nil pass0 (za_s (ze_revL (zv 3) (ze_un un_neg ze_int)) za_nil)) (zv 6) (nomark _)))))) (zss_one (zs_ret ze_bl)) zss_nil)
    (zss_cons (zs_if (zt_cmpR op_ne (ze_callB call_len_seq rfl m_len PySem.boot_len (za_cons (ze_comp (own := ["_law_row"]) scLaw rfl ⟨by decide +kernel, rfl, by decide +kernel, by decide +kernel, by decide +kernel, by decide +kernel, by decide +kernel, by decide +kernel, by decide +kernel⟩ (zi_tup (zv 6)) (fun C fp s H nd => zg_name (i := 0) nd rfl (Or.inl rfl)) (fun C fp s H => zts_one (zt_val (ze_call G6 r6 rfl mG6 kG6 bG6 .nil pass0 (za_n (zv 4) (za_n (zv 0) za_nil))))) (fun C fp s H => (zv 0))) za_nil)) ze_int (nomark _)) (zss_one (zs_ret ze_bl)) zss_nil)
    (zss_cons (zs_comp (i := 7) (own := ["_law_four_here"]) scLaw rfl ⟨by decide +kernel, rfl, by decide +kernel, by decide +kernel, by decide +kernel, by decide +kernel, by decide +kernel, by decide +kernel, by decide +kernel⟩ (zi_list (zv 3)) (fun C fp s H nd => zg_name (i := 0) nd rfl (Or.inl rfl)) (fun C fp s H => zts_nil) (fun C fp s H => (ze_call G4 r4 rfl mG4 kG4 bG4 .nil pass0 (za_l (ze_lst (za_n (zv 0) za_nil)) za_nil))) scLaw.nd rfl (Or.inl rfl) rfl)
    (zss_cons (zs_if (zt_cmpR op_gt (ze_callB call_len_seq rfl m_len PySem.boot_len (za_cons (ze_comp (own := ["_law_one"]) scLaw rfl ⟨by decide +kernel, rfl, by decide +kernel, by decide +kernel, by decide +kernel, by decide +kernel, by decide +kernel, by decide +kernel, by decide +kernel⟩ (zi_list (zv 7)) (fun C fp s H nd => zg_name (i := 0) nd rfl (Or.inl rfl)) (fun C fp s H => zts_one (zt_not (zt_val (ze_call G5 r5 rfl mG5 kG5 bG5 .nil pass0 (za_n (zv 0) za_nil))))) (fun C fp s H => (zv 0))) za_nil)) ze_int (nomark _)) (zss_one (zs_ret ze_bl)) zss_nil)
    (zss_one (zs_for PassesOwn.never rfl (zi_list (ze_op op_cat (ze_lst (za_n (zv 6) za_nil)) (zv 7))) (zg_name (i := 8) scLaw.nd rfl (Or.inl rfl)) (zss_one (zs_for PassesOwn.never rfl (zi_list (ze_call G7 r7 rfl mG7 kG7 bG7 .nil pass0 (za_n (zv 2) (za_n (zv 8) za_nil)))) (zg_name (i := 9) scLaw.nd rfl (Or.inr rfl)) (zss_cons (zs_set (i := 10) scLaw.nd rfl (Or.inl rfl) (ze_cmpR op_eq (ze_callB call_len_seq rfl m_len PySem.boot_len (za_cons (ze_comp (own := ["_law_one"]) scLaw rfl ⟨by decide +kernel, rfl, by decide +kernel, by decide +kernel, by decide +kernel, by decide +kernel, by decide +kernel, by decide +kernel, by decide +kernel⟩ (zi_list (zv 7)) (fun C fp s H nd => zg_name (i := 0) nd rfl (Or.inl rfl)) (fun C fp s H => zts_one (zt_not (zt_val (ze_call G8 r8 rfl mG8 kG8 bG8 .nil pass0 (za_n (zv 0) (za_n (zv 10) za_nil)))))) (fun C fp s H => (zv 0))) za_nil)) ze_int (nomark _)))
    (zss_one (zs_if (zt_cmpR op_ne (ze_call G8 r8 rfl mG8 kG8 bG8 .nil pass0 (za_n (zv 6) (za_n (zv 9) za_nil))) (zv 10) (nomark _)) (zss_one (zs_ret ze_bl)) zss_nil)))))))))))))))))
    (zss_one (zs_ret ze_bl))), fun sc hl hb => ?_⟩
  refine S.seq (M := fun τ' => ∃ o1 o2 o3 o4 o5 o6 o7 o8 o9 o10 : Sl, τ' = [.dat (.list (sc.map .int)), o1, o2, o3, o4, o5, o6, o7, o8, o9, o10]) ?_ fun τ' ⟨o1, o2, o3, o4, o5, o6, o7, o8, o9, o10, eτ⟩ => ?_
  · refine S.for (Wk.rng (n := 5) (A1.cons E1.int A1.nil) rfl) (fun _ τ' => ∃ o1 o2 o3 o4 o5 o6 o7 o8 o9 o10 : Sl, τ' = [.dat (.list (sc.map .int)), o1, o2, o3, o4, o5, o6, o7, o8, o9, o10]) ⟨_, _, _, _, _, _, _, _, _, _, rfl⟩ (fun n dd τ1 hd ⟨o1, o2, o3, o4, o5, o6, o7, o8, o9, o10, e1⟩ => ?_) (fun τ1 h => h)
    subst e1
    obtain ⟨hn, ed⟩ := rangeD_get hd
    subst ed
    clear hd
    refine ⟨_, Gd.name, ?_⟩
    refine S.purse3N (R0 := RPur3) (ds := [.list (sc.map .int), .int (0 + (n : Int))]) (A1.cons (E1.var rfl) (A1.cons (E1.var rfl) A1.nil)) ⟨sc, 0 + (n : Int), rfl, by omega, by omega, rfl⟩ (by omega) (fun q => ?_) (show 2 < 11 by decide)
    refine S2N.letO2 (C := fun ds => ds = []) (E2.of (E.mono (E1.li A1.nil rfl (lsz (n := 0) rfl z0)) (fun s es => ⟨[], es.symm, rfl, rfl⟩))) (fun ds es => ?_)
    subst es
    refine S2N.seq (M1 := 2 ^ 20 + 84) (X := fun τ' => ∃ (fs : List (List Int)) (o4 : Sl), FourL 97 fs ∧ fs.length ≤ 4 ∧ τ' = [.dat (.list (sc.map .int)), .dat (.int (0 + (n : Int))), .un, .own (fs.map tI), o4, o5, o6, o7, o8, o9, o10]) (S2.forD (c := 20) (B := 4) (M1 := 2 ^ 20 + 4) (W2.rng (P := fun j => 1 ≤ j ∧ j ≤ 4) (EI2.mono (EI2.op EI2.lit (E2.drawn (m := 4) (A1.cons E1.int A1.nil) (by decide) (by decide))) (fun k ⟨i, j, hi, hj, ek⟩ => by omega)) (fun j hj => by omega)) (fun _ i τ' => ∃ (fs : List (List Int)) (o4 : Sl), FourL 97 fs ∧ fs.length = i ∧ τ' = [.dat (.list (sc.map .int)), .dat (.int (0 + (n : Int))), .un, .own (fs.map tI), o4, o5, o6, o7, o8, o9, o10]) (fun _ _ => ⟨[], _, fun F h => (by cases h), rfl, rfl⟩) (fun ds ⟨j, hj, ed⟩ k d τ1 hd ⟨fs, o4, hF, lf, e1⟩ => ?_) (fun ds ⟨j, hj, ed⟩ τ1 ⟨fs, o4, hF, lf, e1⟩ => ⟨fs, o4, hF, by rw [lf, ed, rangeD_len]; omega, e1⟩) (fun ds ⟨j, hj, ed⟩ => by rw [ed, rangeD_len]; omega) (by decide) (by omega)) (fun τ' ⟨fs, o4, hF, l4, eτ⟩ => ?_)
    · subst e1 ed
      have hk : k < 4 := by have := (rangeD_get hd).1; omega
      have c1 : fs.length < sizeLine := Nat.lt_of_lt_of_le (show fs.length < 1000 by omega) (by decide)
      refine S2.append (M1 := 2 ^ 20 + 4 + k * 20 + 20) (C := fun d => ∃ f : List Int, d = tI f ∧ (f.length = 4 ∧ (∃ n ∈ f, n ≠ 0) ∧ Bd (2 ^ 97) f)) rfl (E2.up (E2.call (C := fun d => ∃ f : List Int, d = tI f ∧ (f.length = 4 ∧ (∃ n ∈ f, n ≠ 0) ∧ Bd (2 ^ 97) f)) (A2.int1 (EI2.pick (ms := [3, 100, 10 ^ Int.toNat 29]) (by walk_at "au3") (E2.drawn (m := 3) (A1.cons E1.int A1.nil) (by decide) (by decide)) (fun d hd => hd))) (fun ds ⟨i, ei, hi⟩ => by
        have i0 : 0 < i ∧ i ≤ 10 ^ 29 := by
          simp only [List.mem_cons, List.mem_nil_iff, or_false] at hi
          rcases hi with rfl | rfl | rfl <;> decide
        exact ⟨_, ⟨i, ei, i0.1, by omega, rfl⟩, fun d ⟨a, b, c, e, ed, nz, bd⟩ => ⟨[a, b, c, e], ed, rfl, nz, bd_mono bd (Nat.le_trans (show i.toNat ≤ 10 ^ 29 by omega) (by decide))⟩⟩) (by omega)) (by omega)) (fun d ⟨f, ed, _⟩ => by rw [ed]; show noL (tI f) = true; unfold tI; rw [noL]; exact noLs_ints f) (by rw [List.length_map]; exact c1) (fun d' ⟨f, ed, h4⟩ => ⟨fs ++ [f], _, four_snoc hF h4, by rw [List.length_append, lf]; rfl, by subst ed; rw [List.map_append]; rfl⟩) (by omega)
    subst eτ
    refine S2N.frz (i := 3) (ds := fs.map tI) rfl ?_
    refine S2N.let1 (d := .list (fs.map tI)) (E1.frz (E1.listL (A1.cons (E1.varL rfl) A1.nil))) ?_
    obtain ⟨a, b, c, d, e, f, k0⟩ := kst_ex fs hF (by omega)
    have hk : KSt (KptA fs) 2401 a b c d e f := k0.to (fun _ _ _ => Iff.rfl) (by omega)
    clear k0
    have hx := hk.all
    obtain ⟨r1, r2_, r3_, r4_, r5_, r6_⟩ := hx
    have x1 := r1.up (show 2401 ≤ 2500 by decide)
    have x2 := r2_.up (show 2401 ≤ 2500 by decide)
    have x3 := r3_.up (show 2401 ≤ 2500 by decide)
    have x4 := r4_.up (show 2401 ≤ 2500 by decide)
    have x5 := r5_.up (show 2401 ≤ 2500 by decide)
    have x6 := r6_.up (show 2401 ≤ 2500 by decide)
    clear r1 r2_ r3_ r4_ r5_ r6_
    have xh := hk.h
    refine S2N.let1 (d := r3D a b c d e f) (E1.call (R := RKeptR) (ds := [.list (fs.map tI)]) (A1.cons (E1.var rfl) A1.nil) ⟨fs, a, b, c, d, e, f, rfl, hF, by omega, hk.rows, rfl⟩) ?_
    refine S2N.ifsF (T1.orF (T1.notT (T1.val (E1.call (R := RForm) (A1.cons (E1.var rfl) A1.nil) ⟨a, b, c, d, e, f, rfl, xh, rfl⟩))) (T1.orF (T1.neDT (d := .list (fs.map tI)) (E1.var rfl) (E1.var rfl) rfl rfl (kqd_fs fs)) (T1.neDT (d := r3D a b c d e f) (E1.call (R := RKeptR) (ds := [.list (fs.reverse.map tI)]) (A1.cons (E1.to (s' := .dat (.list (fs.reverse.map tI))) (E1.frz (E1.revL (ds := fs.map tI) (E1.var rfl) (E1.neg E1.int))) (by rw [List.map_reverse])) A1.nil) ⟨fs.reverse, a, b, c, d, e, f, rfl, hF.rev, by rw [List.length_reverse]; omega, hk.rows.rev, rfl⟩) (E1.var rfl) rfl rfl (kqd_r3 ..)))) ?_
    refine S2N.ifsF (T1.neT (E1.lenL (A1.cons (E1.vwo (E1.compF (ds := [tI [a, 0, 0], tI [b, c, 0], tI [d, e, f]]) (f := fun d => d) (kp := fun _ => true) (Wk.tup (E1.var rfl)) (fun dd hd => ?_) (fun dd hd _ => (E1.var rfl)) z3)) A1.nil)) E1.int rfl) ?_
    · obtain ⟨x, y, z, hK, hb, rfl⟩ := hk.rowKept hd
      exact T1.val (E1.call (R := RKeptT) (ds := [.list (fs.map tI), tI [x, y, z]]) (A1.cons (E1.var rfl) (A1.cons (E1.var rfl) A1.nil)) ⟨fs, x, y, z, true, rfl, hF, bd_up hb, ⟨fun _ => hK, fun _ => rfl⟩, rfl⟩)
    have hal := alone_ex fs hF
    obtain ⟨als, hA⟩ := hal
    have la4 : als.length ≤ 4 := by rw [hA.1]; exact l4
    refine S2N.letO2 (C := fun ds => ds = als) (E2.of (E.mono (E1.compX als (Wk.lst (E1.var rfl)) (fun d => [.dat d]) (fun d _ => Gc.name) (by rw [hA.1, List.length_map]) (fun i dd g hd hg => ?_) (by rw [List.length_map]; exact Nat.le_trans l4 (by decide))) (fun s es => ⟨als, es.symm, alone_nl hA, rfl⟩))) (fun ds es => ?_)
    · rw [List.getElem?_map] at hd
      obtain ⟨F, hF1, rfl⟩ := Option.map_eq_some_iff.mp hd
      have ha1 := hA.2 i F hF1
      obtain ⟨a', b', c', d', e', f', hg', k'⟩ := ha1
      rw [hg] at hg'
      injection hg' with hg'
      subst hg'
      exact E1.call (R := RKeptR) (ds := [.list ([F].map tI)]) (A1.cons (E1.frz (E1.li (A1.cons (E1.var rfl) A1.nil) rfl (lsz (n := 1) rfl z1))) A1.nil) ⟨[F], a', b', c', d', e', f', rfl, (fun G hG => by rw [List.mem_singleton.mp hG]; exact hF F (List.mem_of_getElem? hF1)), le_1, k'.rows, rfl⟩
    subst es
    have zl : ds.length ≤ sizeLine := Nat.le_trans la4 (by decide)
    refine S2N.ifsF ((T1.test (E1.gt (E1.frzI (i := 7) rfl (E1.lenL (A1.cons (E1.vwo (E1.compF (ds := ds) (f := fun d => d) (kp := fun _ => false) (Wk.lst (E1.var rfl)) (fun dd hd => ?_) (fun dd hd _ => (E1.var rfl)) zl)) A1.nil))) E1.int)).eqn (by simp)) ?_
    · obtain ⟨F, hF1, a', b', c', d', e', f', rfl, k'⟩ := hA.mem hd
      exact T1.notT (T1.val (E1.call (R := RForm) (A1.cons (E1.var rfl) A1.nil) ⟨a', b', c', d', e', f', rfl, k'.h, rfl⟩))
    generalize ds = als at *
    refine S2N.of2 (M := 2 ^ 20 + 84 + 5 * 216) (S2.for (c := 216) (ds := r3D a b c d e f :: als) (Wk.lst (E1.frz (E1.to (E1.catOV (xs := [r3D a b c d e f]) (j := 7) (E1.li (A1.cons (E1.var rfl) A1.nil) rfl (lsz (n := 1) rfl z1)) rfl (by show 1 + als.length ≤ sizeLine; exact Nat.le_trans (show 1 + als.length ≤ 5 by omega) (by decide))) rfl))) (fun _ τ' => ∃ o4 al o8 o9 o10 : Sl, (al = .own als ∨ al = .dat (.list als)) ∧ τ' = [.dat (.list (sc.map .int)), .dat (.int (0 + (n : Int))), .un, .dat (.list (fs.map tI)), o4, .dat (.list (fs.map tI)), .dat (r3D a b c d e f), al, o8, o9, o10]) ⟨_, _, _, _, _, .inl rfl, rfl⟩ (fun i dd τ1 hd ⟨o4, al, o8, o9, o10, hal, e1⟩ => ?_) (fun τ1 ⟨o4, al, o8, o9, o10, hal, e1⟩ => ⟨_, _, _, _, _, _, _, _, _, _, e1⟩) (by decide) (by show 2 ^ 20 + 84 + (als.length + 1) * 216 ≤ _; omega))
    subst e1
    have hi5 : i < 5 := by have h1 := (List.getElem?_eq_some_iff.mp hd).1; rw [List.length_cons] at h1; omega
    have hsome : ∃ a' b' c' d' e' f' : Int, dd = r3D a' b' c' d' e' f' ∧ ∃ P, KSt P 2401 a' b' c' d' e' f' := by
      rcases List.mem_cons.mp (List.mem_of_getElem? hd) with h | h
      · exact ⟨a, b, c, d, e, f, h, _, hk⟩
      · obtain ⟨F, hF1, a', b', c', d', e', f', h, k'⟩ := hA.mem h
        exact ⟨a', b', c', d', e', f', h, _, k'⟩
    obtain ⟨a', b', c', d', e', f', edd, P', k'⟩ := hsome
    subst edd
    clear hd
    have hs := k'.all
    obtain ⟨t1, t2, t3, t4, t5, t6⟩ := hs
    have s1 := t1.up (show 2401 ≤ 2500 by decide)
    have s2 := t2.up (show 2401 ≤ 2500 by decide)
    have s3 := t3.up (show 2401 ≤ 2500 by decide)
    have s4 := t4.up (show 2401 ≤ 2500 by decide)
    have s5 := t5.up (show 2401 ≤ 2500 by decide)
    have s6 := t6.up (show 2401 ≤ 2500 by decide)
    refine S2.un 4 ?_
    refine S2.un 9 ?_
    refine S2.un 10 ?_
    rcases hal with hal | hal
    · subst hal
      refine S2.frz (i := 7) (ds := als) rfl ?_
      refine S2.forX (c := 0) (B := 6) (M1 := 2 ^ 20 + 84 + i * 216 + 216) rfl (E2X.call (R := RPts) (ds := [r3D a' b' c' d' e' f']) (A1.cons (E1.var rfl) A1.nil) ⟨a', b', c', d', e', f', rfl, s1, s2, s3, s4, s5, s6, rfl⟩ (by omega)) (fun _ _ τ' => ∃ o9 o10 : Sl, τ' = [.dat (.list (sc.map .int)), .dat (.int (0 + (n : Int))), .un, .dat (.list (fs.map tI)), .un, .dat (.list (fs.map tI)), .dat (r3D a b c d e f), .dat (.list als), .dat (r3D a' b' c' d' e' f'), o9, o10]) (fun _ _ => ⟨_, _, rfl⟩) (fun ds ⟨ps, ed, l6, hps⟩ j dp τ1 hd ⟨o9, o10, e1⟩ => ?_) (fun ds ⟨ps, ed, l6, hps⟩ τ1 ⟨o9, o10, e1⟩ => ⟨_, _, _, _, _, .inr rfl, e1⟩) (fun ds ⟨ps, ed, l6, hps⟩ => by rw [ed, List.length_map, l6]; exact Nat.le_refl _) (by decide) (by omega)
      subst e1 ed
      rw [List.getElem?_map] at hd
      obtain ⟨p, hp1, rfl⟩ := Option.map_eq_some_iff.mp hd
      obtain ⟨x, y, z, rfl, px, py, pz⟩ := hps p (List.mem_of_getElem? hp1)
      refine S2.let1 (d := .bool (inB x y z (r3D a b c d e f))) (E1.to (E1.eq (i := ((als.filter fun o => !inB x y z o).length : Int)) (j := 0) (E1.to (E1.lenL (A1.cons (E1.vwo (E1.compF (ds := als) (f := fun d => d) (kp := fun o => !inB x y z o) (Wk.lst (E1.var rfl)) (fun dd hd => ?_) (fun dd hd _ => (E1.var rfl)) (Nat.le_trans la4 (by decide)))) A1.nil)) (by rw [List.length_map])) E1.int) (by rw [due72 hk hA])) ?_
      · obtain ⟨F, hF1, a', b', c', d', e', f', rfl, k'⟩ := hA.mem hd
        have hs := k'.all
        obtain ⟨t1, t2, t3, t4, t5, t6⟩ := hs
        have y1 := t1.up (show 2401 ≤ 2500 by decide)
        have y2 := t2.up (show 2401 ≤ 2500 by decide)
        have y3 := t3.up (show 2401 ≤ 2500 by decide)
        have y4 := t4.up (show 2401 ≤ 2500 by decide)
        have y5 := t5.up (show 2401 ≤ 2500 by decide)
        have y6 := t6.up (show 2401 ≤ 2500 by decide)
        have yh := k'.h
        exact T1.not (T1.val (E1.call (R := RInL) (ds := [r3D a' b' c' d' e' f', plD [x, y, z]]) (A1.cons (E1.var rfl) (A1.cons (E1.var rfl) A1.nil)) ⟨a', b', c', d', e', f', x, y, z, inB x y z (r3D a' b' c' d' e' f'), rfl, yh.a0, yh.c0, yh.f0, y1, y2, y3, y4, y5, y6, px, py, pz, inB_iff, rfl⟩))
      exact S2.iff (T1.ofB ((T1.test (E1.neB (E1.call (R := RInL) (ds := [r3D a b c d e f, plD [x, y, z]]) (A1.cons (E1.var rfl) (A1.cons (E1.var rfl) A1.nil)) ⟨a, b, c, d, e, f, x, y, z, inB x y z (r3D a b c d e f), rfl, xh.a0, xh.c0, xh.f0, x1, x2, x3, x4, x5, x6, px, py, pz, inB_iff, rfl⟩) (E1.var rfl))).eqn (c := false) (by simp))) (fun e => by cases e) (fun _ => S2.next ⟨_, _, rfl⟩ (by omega))
    · subst hal
      refine S2.forX (c := 0) (B := 6) (M1 := 2 ^ 20 + 84 + i * 216 + 216) rfl (E2X.call (R := RPts) (ds := [r3D a' b' c' d' e' f']) (A1.cons (E1.var rfl) A1.nil) ⟨a', b', c', d', e', f', rfl, s1, s2, s3, s4, s5, s6, rfl⟩ (by omega)) (fun _ _ τ' => ∃ o9 o10 : Sl, τ' = [.dat (.list (sc.map .int)), .dat (.int (0 + (n : Int))), .un, .dat (.list (fs.map tI)), .un, .dat (.list (fs.map tI)), .dat (r3D a b c d e f), .dat (.list als), .dat (r3D a' b' c' d' e' f'), o9, o10]) (fun _ _ => ⟨_, _, rfl⟩) (fun ds ⟨ps, ed, l6, hps⟩ j dp τ1 hd ⟨o9, o10, e1⟩ => ?_) (fun ds ⟨ps, ed, l6, hps⟩ τ1 ⟨o9, o10, e1⟩ => ⟨_, _, _, _, _, .inr rfl, e1⟩) (fun ds ⟨ps, ed, l6, hps⟩ => by rw [ed, List.length_map, l6]; exact Nat.le_refl _) (by decide) (by omega)
      subst e1 ed
      rw [List.getElem?_map] at hd
      obtain ⟨p, hp1, rfl⟩ := Option.map_eq_some_iff.mp hd
      obtain ⟨x, y, z, rfl, px, py, pz⟩ := hps p (List.mem_of_getElem? hp1)
      refine S2.let1 (d := .bool (inB x y z (r3D a b c d e f))) (E1.to (E1.eq (i := ((als.filter fun o => !inB x y z o).length : Int)) (j := 0) (E1.to (E1.lenL (A1.cons (E1.vwo (E1.compF (ds := als) (f := fun d => d) (kp := fun o => !inB x y z o) (Wk.lst (E1.var rfl)) (fun dd hd => ?_) (fun dd hd _ => (E1.var rfl)) (Nat.le_trans la4 (by decide)))) A1.nil)) (by rw [List.length_map])) E1.int) (by rw [due72 hk hA])) ?_
      · obtain ⟨F, hF1, a', b', c', d', e', f', rfl, k'⟩ := hA.mem hd
        have hs := k'.all
        obtain ⟨t1, t2, t3, t4, t5, t6⟩ := hs
        have y1 := t1.up (show 2401 ≤ 2500 by decide)
        have y2 := t2.up (show 2401 ≤ 2500 by decide)
        have y3 := t3.up (show 2401 ≤ 2500 by decide)
        have y4 := t4.up (show 2401 ≤ 2500 by decide)
        have y5 := t5.up (show 2401 ≤ 2500 by decide)
        have y6 := t6.up (show 2401 ≤ 2500 by decide)
        have yh := k'.h
        exact T1.not (T1.val (E1.call (R := RInL) (ds := [r3D a' b' c' d' e' f', plD [x, y, z]]) (A1.cons (E1.var rfl) (A1.cons (E1.var rfl) A1.nil)) ⟨a', b', c', d', e', f', x, y, z, inB x y z (r3D a' b' c' d' e' f'), rfl, yh.a0, yh.c0, yh.f0, y1, y2, y3, y4, y5, y6, px, py, pz, inB_iff, rfl⟩))
      exact S2.iff (T1.ofB ((T1.test (E1.neB (E1.call (R := RInL) (ds := [r3D a b c d e f, plD [x, y, z]]) (A1.cons (E1.var rfl) (A1.cons (E1.var rfl) A1.nil)) ⟨a, b, c, d, e, f, x, y, z, inB x y z (r3D a b c d e f), rfl, xh.a0, xh.c0, xh.f0, x1, x2, x3, x4, x5, x6, px, py, pz, inB_iff, rfl⟩) (E1.var rfl))).eqn (c := false) (by simp))) (fun e => by cases e) (fun _ => S2.next ⟨_, _, rfl⟩ (by omega))
  subst eτ
  exact S.ret1 (s := .dat (.bool true)) E1.bl rfl
theorem scSop : FnScope ["one", "other"] ["one", "other"] (defScope sSop) := ⟨rfl, rfl, rfl, by decide +kernel, rfl, by decide +kernel, by decide +kernel⟩
theorem ok_sop (F : Fun K "sum_of_products" "sum_of_products" sSop f fd) (ms : mg "sum" = none) (mz : mg "zip" = none) : FnOk P w K mg base CX0 1 f fd ["one", "other"] (spSop K) := by
  refine F.okZ scSop (fun vs H Q E h => ?_) (fun cdv A outer s H vs Q E hr h => ?_)
  · obtain ⟨a, b, ns, ms, rfl, _⟩ := h; rfl
  obtain ⟨a, b, ns, ms, rfl, hS, hT, hl, hl2, s1, s2, q⟩ := h
  refine ⟨_, zss_one (zs_ret (ze_callB (call_sumL rfl) rfl ‹_› (by rfl) (za_cons (ze_comp (own := ["left", "right"]) scSop rfl ⟨by decide +kernel, rfl, by decide +kernel, by decide +kernel, by decide +kernel, by decide +kernel, by decide +kernel, by decide +kernel, by decide +kernel⟩
      (zi_zip rfl mz (za_cons (zv 0) (za_cons (zv 1) za_nil)))
      (fun C fp s H nd => zg_pair rfl nd rfl rfl rfl rfl) (fun C fp s H => zts_nil) (fun C fp s H => ze_op op_mulB (zv 0) (zv 1))) za_nil))), ?_⟩
  refine ⟨_, rfl, _, rfl, a, b, rfl, ⟨_, hS⟩, ⟨_, hT⟩, ?_⟩
  refine comp_zip (K := K) ((List.zipWith (· * ·) ns ms).map PySem.W.Dat.int) hS hT (by simp [hl2]) (by simp [hl2]) (by rw [List.length_map]; exact Nat.le_of_lt (small1000 hl)) (fun i x y H' d hx hy hd hs => ?_) (fun σ' H2 Q1 Q2 hq h => ?_) (fun D H' ys hs hy hD hf => ?_)
  · rw [List.getElem?_map] at hx hy hd
    rw [List.getElem?_zipWith] at hd
    cases e : ns[i]? with
    | none => rw [e] at hx; cases hx
    | some n =>
      cases e2 : ms[i]? with
      | none => rw [e2] at hy; cases hy
      | some m =>
        rw [e] at hx hd
        rw [e2] at hy hd
        cases hx; cases hy; cases hd
        exact ⟨_, rfl, _, rfl, n, m, rfl, rfl, mulOk_of (pow_lift (s1 n (List.mem_of_getElem? e))) (pow_lift (s2 m (List.mem_of_getElem? e2))), Same.refl _, .int _⟩
  · obtain ⟨v1, e1, v2, e2, i, j, e3, e4, e5, q⟩ := h
    exact ⟨v1, e1, v2, e2, i, j, e3, e4, e5, hq _ _ q⟩
  · refine ⟨D, _, rfl, ?_, q _ hs⟩
    rw [Fzs.ints_inv hf] at hy
    exact SqL.of hy
theorem scSopp1 : FnScope ["_law_one", "_law_other"] ["_law_one", "_law_other"] (defScope sSopp1) := ⟨rfl, rfl, rfl, by decide +kernel, rfl, by decide +kernel, by decide +kernel⟩
theorem ok_sopp1 (F : Fun K "_law_sum" "_law_sum" sSopp1 f fd) (ms : mg "sum" = none) (mz : mg "zip" = none) : FnOk P w K mg base CX0 1 f fd ["_law_one", "_law_other"] (spSop K) := by
  refine F.okZ scSopp1 (fun vs H Q E h => ?_) (fun cdv A outer s H vs Q E hr h => ?_)
  · obtain ⟨a, b, ns, ms, rfl, _⟩ := h; rfl
  obtain ⟨a, b, ns, ms, rfl, hS, hT, hl, hl2, s1, s2, q⟩ := h
  refine ⟨_, zss_one (zs_ret (ze_callB (call_sumL rfl) rfl ‹_› (by rfl) (za_cons (ze_comp (own := ["_law_a", "_law_b"]) scSopp1 rfl ⟨by decide +kernel, rfl, by decide +kernel, by decide +kernel, by decide +kernel, by decide +kernel, by decide +kernel, by decide +kernel, by decide +kernel⟩
      (zi_zip rfl mz (za_cons (zv 0) (za_cons (zv 1) za_nil)))
      (fun C fp s H nd => zg_pair rfl nd rfl rfl rfl rfl) (fun C fp s H => zts_nil) (fun C fp s H => ze_op op_mulB (zv 0) (zv 1))) za_nil))), ?_⟩
  refine ⟨_, rfl, _, rfl, a, b, rfl, ⟨_, hS⟩, ⟨_, hT⟩, ?_⟩
  refine comp_zip (K := K) ((List.zipWith (· * ·) ns ms).map PySem.W.Dat.int) hS hT (by simp [hl2]) (by simp [hl2]) (by rw [List.length_map]; exact Nat.le_of_lt (small1000 hl)) (fun i x y H' d hx hy hd hs => ?_) (fun σ' H2 Q1 Q2 hq h => ?_) (fun D H' ys hs hy hD hf => ?_)
  · rw [List.getElem?_map] at hx hy hd
    rw [List.getElem?_zipWith] at hd
    cases e : ns[i]? with
    | none => rw [e] at hx; cases hx
    | some n =>
      cases e2 : ms[i]? with
      | none => rw [e2] at hy; cases hy
      | some m =>
        rw [e] at hx hd
        rw [e2] at hy hd
        cases hx; cases hy; cases hd
        exact ⟨_, rfl, _, rfl, n, m, rfl, rfl, mulOk_of (pow_lift (s1 n (List.mem_of_getElem? e))) (pow_lift (s2 m (List.mem_of_getElem? e2))), Same.refl _, .int _⟩
  · obtain ⟨v1, e1, v2, e2, i, j, e3, e4, e5, q⟩ := h
    exact ⟨v1, e1, v2, e2, i, j, e3, e4, e5, hq _ _ q⟩
  · refine ⟨D, _, rfl, ?_, q _ hs⟩
    rw [Fzs.ints_inv hf] at hy
    exact SqL.of hy
end
end K72
end

section
set_option Elab.async false
set_option linter.all false
set_option maxRecDepth 100000
set_option maxHeartbeats 4000000
set_option exponentiation.threshold 200000
namespace K72
open PySem L2 Num K0 D
open PySem.W (Dat)
theorem us1 {P : List Value → Prop} (h : ∀ a, P [a]) : ∀ (us : List Value), us.length = 1 → P us := fun us l => by
  cases us with
  | nil => cases l
  | cons x0 us =>
  cases us with
  | cons _ _ => simp at l
  | nil => exact h x0
theorem us2 {P : List Value → Prop} (h : ∀ a b, P [a, b]) : ∀ (us : List Value), us.length = 2 → P us := fun us l => by
  cases us with
  | nil => cases l
  | cons x0 us =>
  cases us with
  | nil => cases l
  | cons x1 us =>
  cases us with
  | cons _ _ => simp at l
  | nil => exact h x0 x1
theorem us3 {P : List Value → Prop} (h : ∀ a b c, P [a, b, c]) : ∀ (us : List Value), us.length = 3 → P us := fun us l => by
  cases us with
  | nil => cases l
  | cons x0 us =>
  cases us with
  | nil => cases l
  | cons x1 us =>
  cases us with
  | nil => cases l
  | cons x2 us =>
  cases us with
  | cons _ _ => simp at l
  | nil => exact h x0 x1 x2
theorem all_mk {l : PySem.W.OpenLaw} {w : World} {K : PySem.W.Frag} {h : Heap} {mg : Str → Option Value} {fa : Addr} (X : K.In h) (G : h.Ns mainGlobals mg) (hfa : mg "law" = some (.ref fa))
    (d1 : DefAt K "common_divisor" sCD) (d2 : DefAt K "reduced" sRed) (d3 : DefAt K "negated" sNeg) (d4 : DefAt K "sum_of_products" sSopL) (d5 : DefAt K "inverse" sInv) (d7 : DefAt K "plain" sPlain) (d8 : DefAt K "size" sSize) (d9 : DefAt K "whole_table" sWT) (d12 : DefAt K "solved" sSolved) (d13 : DefAt K "divided_rows" sDivRows) (d14 : DefAt K "summed" sSummed) (d15 : DefAt K "tidied" sTidied) (d16 : DefAt K "kept_rows" sKeptRows) (d18 : DefAt K "_law_at" sAt3) (d19 : DefAt K "_law_wholes" sWholes3) (d20 : DefAt K "_law_mixed" sMix3) (d21 : DefAt K "_law_purse" sPur3) (d22 : DefAt K "_law_draw" sDraw3) (d23 : DefAt K "_law_small" sSm3) (d24 : DefAt K "_law_four" sFour3) (d25 : DefAt K "_law_sum" sSumM) (d26 : DefAt K "_law_rows" sRows3) (d28 : DefAt K "_law_divisor" sGcd3) (d29 : DefAt K "_law_shrunk" sShr3) (d30 : DefAt K "_law_plain" sPl3) (d31 : DefAt K "_law_kept" sKeptT) (d32 : DefAt K "_law_form" sForm72) (d33 : DefAt K "_law_in" sInL) (d34 : DefAt K "_law_points" sPts72) (d35 : DefAt K "law" sLaw)
    (tb_UNITS : TupTTAt K "UNITS" units) (z_abs : PySem.W.nsIn K mainGlobals "abs" = some none) (z_tuple : PySem.W.nsIn K mainGlobals "tuple" = some none) (z_sum : PySem.W.nsIn K mainGlobals "sum" = some none) (z_zip : PySem.W.nsIn K mainGlobals "zip" = some none) (z_len : PySem.W.nsIn K mainGlobals "len" = some none) (z_isinstance : PySem.W.nsIn K mainGlobals "isinstance" = some none) (z_bool : PySem.W.nsIn K mainGlobals "bool" = some none) (z_int : PySem.W.nsIn K mainGlobals "int" = some none) (z_max : PySem.W.nsIn K mainGlobals "max" = some none) (z_range : PySem.W.nsIn K mainGlobals "range" = some none) (z_min : PySem.W.nsIn K mainGlobals "min" = some none) (z_list : PySem.W.nsIn K mainGlobals "list" = some none) :
    ∃ fd : FuncData, (∀ (s : Shared) (v : Value), BindsTo s fd ⟨[v], []⟩ [("_law_script", v)]) ∧ ∀ base : Heap, K.In base → base.Ns mainGlobals mg → FnOk l.prog w K mg base CX0 5 fa fd ["_law_script"] (spLaw K) := by
  obtain ⟨f1, fd1, F1, m1, k1⟩ := d1.get X G
  have b1 := F1.binds (ps := ["numbers"]) (by refine fun _ _ _ _ _ _ => us1 ?_; intros; rfl)
  obtain ⟨f2, fd2, F2, m2, k2⟩ := d2.get X G
  have b2 := F2.binds (ps := ["numbers"]) (by refine fun _ _ _ _ _ _ => us1 ?_; intros; rfl)
  obtain ⟨f3, fd3, F3, m3, k3⟩ := d3.get X G
  have b3 := F3.binds (ps := ["numbers"]) (by refine fun _ _ _ _ _ _ => us1 ?_; intros; rfl)
  obtain ⟨f4, fd4, F4, m4, k4⟩ := d4.get X G
  have b4 := F4.binds (ps := ["one", "other"]) (by refine fun _ _ _ _ _ _ => us2 ?_; intros; rfl)
  obtain ⟨f5, fd5, F5, m5, k5⟩ := d5.get X G
  have b5 := F5.binds (ps := ["number", "modulus"]) (by refine fun _ _ _ _ _ _ => us2 ?_; intros; rfl)
  obtain ⟨f7, fd7, F7, m7, k7⟩ := d7.get X G
  have b7 := F7.binds (ps := ["four"]) (by refine fun _ _ _ _ _ _ => us1 ?_; intros; rfl)
  obtain ⟨f8, fd8, F8, m8, k8⟩ := d8.get X G
  have b8 := F8.binds (ps := ["four"]) (by refine fun _ _ _ _ _ _ => us1 ?_; intros; rfl)
  obtain ⟨f9, fd9, F9, m9, k9⟩ := d9.get X G
  have b9 := F9.binds (ps := ["four"]) (by refine fun _ _ _ _ _ _ => us1 ?_; intros; rfl)
  obtain ⟨f12, fd12, F12, m12, k12⟩ := d12.get X G
  have b12 := F12.binds (ps := ["number", "wanted", "modulus"]) (by refine fun _ _ _ _ _ _ => us3 ?_; intros; rfl)
  obtain ⟨f13, fd13, F13, m13, k13⟩ := d13.get X G
  have b13 := F13.binds (ps := ["values", "modulus"]) (by refine fun _ _ _ _ _ _ => us2 ?_; intros; rfl)
  obtain ⟨f14, fd14, F14, m14, k14⟩ := d14.get X G
  have b14 := F14.binds (ps := ["multiples", "rows"]) (by refine fun _ _ _ _ _ _ => us2 ?_; intros; rfl)
  obtain ⟨f15, fd15, F15, m15, k15⟩ := d15.get X G
  have b15 := F15.binds (ps := ["rows"]) (by refine fun _ _ _ _ _ _ => us1 ?_; intros; rfl)
  obtain ⟨f16, fd16, F16, m16, k16⟩ := d16.get X G
  have b16 := F16.binds (ps := ["fours"]) (by refine fun _ _ _ _ _ _ => us1 ?_; intros; rfl)
  obtain ⟨f18, fd18, F18, m18, k18⟩ := d18.get X G
  have b18 := F18.binds (ps := ["_law_script", "_law_k"]) (by refine fun _ _ _ _ _ _ => us2 ?_; intros; rfl)
  obtain ⟨f19, fd19, F19, m19, k19⟩ := d19.get X G
  have b19 := F19.binds (ps := ["_law_found", "_law_many"]) (by refine fun _ _ _ _ _ _ => us2 ?_; intros; rfl)
  obtain ⟨f20, fd20, F20, m20, k20⟩ := d20.get X G
  have b20 := F20.binds (ps := ["_law_cell", "_law_k"]) (by refine fun _ _ _ _ _ _ => us2 ?_; intros; rfl)
  obtain ⟨f21, fd21, F21, m21, k21⟩ := d21.get X G
  have b21 := F21.binds (ps := ["_law_script", "_law_at_here"]) (by refine fun _ _ _ _ _ _ => us2 ?_; intros; rfl)
  obtain ⟨f22, fd22, F22, m22, k22⟩ := d22.get X G
  have b22 := F22.binds (ps := ["_law_purse_here", "_law_out_of"]) (by refine fun _ _ _ _ _ _ => us2 ?_; intros; rfl)
  obtain ⟨f23, fd23, F23, m23, k23⟩ := d23.get X G
  have b23 := F23.binds (ps := ["_law_purse_here", "_law_most"]) (by refine fun _ _ _ _ _ _ => us2 ?_; intros; rfl)
  obtain ⟨f24, fd24, F24, m24, k24⟩ := d24.get X G
  have b24 := F24.binds (ps := ["_law_purse_here", "_law_most"]) (by refine fun _ _ _ _ _ _ => us2 ?_; intros; rfl)
  obtain ⟨f25, fd25, F25, m25, k25⟩ := d25.get X G
  have b25 := F25.binds (ps := ["_law_one", "_law_other"]) (by refine fun _ _ _ _ _ _ => us2 ?_; intros; rfl)
  obtain ⟨f26, fd26, F26, m26, k26⟩ := d26.get X G
  have b26 := F26.binds (ps := ["_law_four_here"]) (by refine fun _ _ _ _ _ _ => us1 ?_; intros; rfl)
  obtain ⟨f28, fd28, F28, m28, k28⟩ := d28.get X G
  have b28 := F28.binds (ps := ["_law_numbers"]) (by refine fun _ _ _ _ _ _ => us1 ?_; intros; rfl)
  obtain ⟨f29, fd29, F29, m29, k29⟩ := d29.get X G
  have b29 := F29.binds (ps := ["_law_numbers"]) (by refine fun _ _ _ _ _ _ => us1 ?_; intros; rfl)
  obtain ⟨f30, fd30, F30, m30, k30⟩ := d30.get X G
  have b30 := F30.binds (ps := ["_law_four_here"]) (by refine fun _ _ _ _ _ _ => us1 ?_; intros; rfl)
  obtain ⟨f31, fd31, F31, m31, k31⟩ := d31.get X G
  have b31 := F31.binds (ps := ["_law_fours", "_law_point"]) (by refine fun _ _ _ _ _ _ => us2 ?_; intros; rfl)
  obtain ⟨f32, fd32, F32, m32, k32⟩ := d32.get X G
  have b32 := F32.binds (ps := ["_law_rows_here"]) (by refine fun _ _ _ _ _ _ => us1 ?_; intros; rfl)
  obtain ⟨f33, fd33, F33, m33, k33⟩ := d33.get X G
  have b33 := F33.binds (ps := ["_law_rows_here", "_law_point"]) (by refine fun _ _ _ _ _ _ => us2 ?_; intros; rfl)
  obtain ⟨f34, fd34, F34, m34, k34⟩ := d34.get X G
  have b34 := F34.binds (ps := ["_law_purse_here", "_law_rows_here"]) (by refine fun _ _ _ _ _ _ => us2 ?_; intros; rfl)
  obtain ⟨fd35, F35, b35⟩ := d35.law (y := "_law_script") X G hfa fun _ _ _ _ _ _ _ => rfl
  obtain ⟨dUNITS, m_UNITS, t_UNITS⟩ := tb_UNITS.get X G
  have m_abs := PySem.W.mg_none_of X G z_abs
  have m_tuple := PySem.W.mg_none_of X G z_tuple
  have m_sum := PySem.W.mg_none_of X G z_sum
  have m_zip := PySem.W.mg_none_of X G z_zip
  have m_len := PySem.W.mg_none_of X G z_len
  have m_isinstance := PySem.W.mg_none_of X G z_isinstance
  have m_bool := PySem.W.mg_none_of X G z_bool
  have m_int := PySem.W.mg_none_of X G z_int
  have m_max := PySem.W.mg_none_of X G z_max
  have m_range := PySem.W.mg_none_of X G z_range
  have m_min := PySem.W.mg_none_of X G z_min
  have m_list := PySem.W.mg_none_of X G z_list
  refine ⟨fd35, b35, fun base _ _ => ?_⟩
  have o1_CD := ok_cd (P := l.prog) (w := w) (mg := mg) (base := base) F1  m_abs 
  have o2_Red := ok_red (P := l.prog) (w := w) (mg := mg) (base := base) F2 o1_CD b1 k1 m1 m_tuple 
  have o3_Neg := ok_neg (P := l.prog) (w := w) (mg := mg) (base := base) F3  m_tuple 
  have o4_SopL := ok_sopl (P := l.prog) (w := w) (mg := mg) (base := base) F4  m_sum m_zip 
  have o5_Inv := ok_inv (P := l.prog) (w := w) (mg := mg) (base := base) F5   
  have o7_Plain := ok_plain (P := l.prog) (w := w) (mg := mg) (base := base) F7 o2_Red b2 k2 m2 o3_Neg b3 k3 m3  
  have o9_WT := ok_wt (P := l.prog) (w := w) (mg := mg) (base := base) F9   
  have o12_Solved := ok_solved (P := l.prog) (w := w) (mg := mg) (base := base) F12 o1_CD b1 k1 m1 o5_Inv b5 k5 m5  
  have o13_DivRows := ok_divrows (P := l.prog) (w := w) (mg := mg) (base := base) F13 o1_CD b1 k1 m1 o12_Solved b12 k12 m12  
  have o14_Summed := ok_summed (P := l.prog) (w := w) (mg := mg) (base := base) F14 o4_SopL b4 k4 m4 m_tuple 
  have o15_Tidied := ok_tidied (P := l.prog) (w := w) (mg := mg) (base := base) F15   
  have o18_At3 := ok_at3 (P := l.prog) (w := w) (mg := mg) (base := base) F18  m_len 
  have o19_Wholes3 := ok_wholes3 (P := l.prog) (w := w) (mg := mg) (base := base) F19  m_len m_isinstance m_tuple m_bool m_int 
  have o20_Mix3 := ok_mix3 (P := l.prog) (w := w) (mg := mg) (base := base) F20   
  have o21_Pur3 := ok_pur3 (P := l.prog) (w := w) (mg := mg) (base := base) F21 o18_At3 b18 k18 m18 m_max 
  have o22_Draw3 := ok_draw3 (P := l.prog) (w := w) (mg := mg) (base := base) F22 o20_Mix3 b20 k20 m20 m_range m_int 
  have o23_Sm3 := ok_sm3 (P := l.prog) (w := w) (mg := mg) (base := base) F23 o22_Draw3 b22 k22 m22  
  have o24_Four3 := ok_four3 (P := l.prog) (w := w) (mg := mg) (base := base) F24 o23_Sm3 b23 k23 m23 m_tuple m_range 
  have o25_SumM := ok_summ (P := l.prog) (w := w) (mg := mg) (base := base) F25  m_sum m_zip 
  have o26_Rows3 := ok_rows3 (P := l.prog) (w := w) (mg := mg) (base := base) F26   
  have o28_Gcd3 := ok_gcd3 (P := l.prog) (w := w) (mg := mg) (base := base) F28  m_abs 
  have o29_Shr3 := ok_shr3 (P := l.prog) (w := w) (mg := mg) (base := base) F29 o28_Gcd3 b28 k28 m28 m_tuple 
  have o30_Pl3 := ok_pl3 (P := l.prog) (w := w) (mg := mg) (base := base) F30 o29_Shr3 b29 k29 m29 m_tuple m_int 
  have o32_Form72 := ok_form72 (P := l.prog) (w := w) (mg := mg) (base := base) F32 o19_Wholes3 b19 k19 m19 m_len m_isinstance m_tuple m_min 
  have o33_InL := ok_inl (P := l.prog) (w := w) (mg := mg) (base := base) F33  m_tuple m_range 
  have o34_Pts72 := ok_pts72 (P := l.prog) (w := w) (mg := mg) (base := base) F34 o22_Draw3 b22 k22 m22 o23_Sm3 b23 k23 m23 m_range m_sum 
  have o4_Sop := ok_sop (P := l.prog) (w := w) (mg := mg) (base := base) F4  m_sum m_zip 
  have o8_Size := ok_size (P := l.prog) (w := w) (mg := mg) (base := base) F8 o4_Sop b4 k4 m4  
  have o16_KeptRows := ok_keptrows (P := l.prog) (w := w) (mg := mg) (base := base) F16 o7_Plain b7 k7 m7 o8_Size b8 k8 m8 o9_WT b9 k9 m9 o4_Sop b4 k4 m4 o15_Tidied b15 k15 m15 o13_DivRows b13 k13 m13 o14_Summed b14 k14 m14  m_UNITS t_UNITS
  have o25_Sopp1 := ok_sopp1 (P := l.prog) (w := w) (mg := mg) (base := base) F25  m_sum m_zip 
  have o31_KeptT := ok_keptt (P := l.prog) (w := w) (mg := mg) (base := base) F31 o30_Pl3 b30 k30 m30 o25_Sopp1 b25 k25 m25 o26_Rows3 b26 k26 m26  
  exact ok_law (P := l.prog) (w := w) (mg := mg) (base := base) F35 o21_Pur3 b21 k21 m21 o22_Draw3 b22 k22 m22 o24_Four3 b24 k24 m24 o16_KeptRows b16 k16 m16 o32_Form72 b32 k32 m32 o31_KeptT b31 k31 m31 o34_Pts72 b34 k34 m34 o33_InL b33 k33 m33 m_range m_list m_len 
theorem walk {l : PySem.W.OpenLaw} {q : Program} {loose : List Str} {XP : (Str → Option Value) → Heap → Prop} {YP : World → Heap → Prop} {d : DefRec} {K : Params → PySem.W.Frag} (hn : l.most = some 63) (hdf : d.params.defaults = [])
    (hY : ∀ (w : World) (h : Heap), YP w h → (K w.params).In h)
    (F : ∀ (w : World) (mg : Str → Option Value) (fa : Addr) (h : Heap), (K w.params).In h → h.Ns mainGlobals mg → mg d.name = some (.ref fa) →
      ∃ fd : FuncData, (∀ (s : Shared) (u : Value), BindsTo s fd ⟨[u], []⟩ [("_law_script", u)]) ∧ ∀ base : Heap, (K w.params).In base → base.Ns mainGlobals mg → FnOk l.prog w (K w.params) mg base CX0 5 fa fd ["_law_script"] (spLaw (K w.params))) :
    PySem.W.WalkO q loose XP YP l.row.toRowW d [] (fun f vs => PySem.call f vs) :=
  L2.walkB (n := 63) (k := 5) (x := "_law_script") (sp := spLaw) hn (by decide) hdf ⟨rfl, by decide, by decide⟩ hY F (fun K H a ns hl hb hS => ⟨a, ns, rfl, hS, hl, hb, fun _ => rfl⟩)
end K72
open PySem PySem.W PyProof.Rows
theorem PySem.W.Fast.te6482166500946191563 : True := True.intro
set_option maxRecDepth 100000 in
set_option maxHeartbeats 0 in
theorem PySem.Challenge.cw_hangrings_k72_points_of_several_turns_holds : PySem.Challenge.rw_hangrings_k72_points_of_several_turns.Holds := by
  w_on; o_law; k_head; (case hw => w_witness2)
  k_fill
  refine K72.walk (l := PySem.Challenge.rw_hangrings_k72_points_of_several_turns) rfl rfl (fun w h Y => PySem.W.kIn_of Y) ?F
  case F =>
    intro w mg fa h KX G hmg
    refine' K72.all_mk KX G hmg (L2.DefAt.mk ?a1 ?l1 ?c1 ?k1) (L2.DefAt.mk ?a2 ?l2 ?c2 ?k2) (L2.DefAt.mk ?a3 ?l3 ?c3 ?k3) (L2.DefAt.mk ?a4 ?l4 ?c4 ?k4) (L2.DefAt.mk ?a5 ?l5 ?c5 ?k5) (L2.DefAt.mk ?a7 ?l7 ?c7 ?k7) (L2.DefAt.mk ?a8 ?l8 ?c8 ?k8) (L2.DefAt.mk ?a9 ?l9 ?c9 ?k9) (L2.DefAt.mk ?a12 ?l12 ?c12 ?k12) (L2.DefAt.mk ?a13 ?l13 ?c13 ?k13) (L2.DefAt.mk ?a14 ?l14 ?c14 ?k14) (L2.DefAt.mk ?a15 ?l15 ?c15 ?k15) (L2.DefAt.mk ?a16 ?l16 ?c16 ?k16) (L2.DefAt.mk ?a18 ?l18 ?c18 ?k18) (L2.DefAt.mk ?a19 ?l19 ?c19 ?k19) (L2.DefAt.mk ?a20 ?l20 ?c20 ?k20) (L2.DefAt.mk ?a21 ?l21 ?c21 ?k21) (L2.DefAt.mk ?a22 ?l22 ?c22 ?k22) (L2.DefAt.mk ?a23 ?l23 ?c23 ?k23) (L2.DefAt.mk ?a24 ?l24 ?c24 ?k24) (L2.DefAt.mk ?a25 ?l25 ?c25 ?k25) (L2.DefAt.mk ?a26 ?l26 ?c26 ?k26) (L2.DefAt.mk ?a28 ?l28 ?c28 ?k28) (L2.DefAt.mk ?a29 ?l29 ?c29 ?k29) (L2.DefAt.mk ?a30 ?l30 ?c30 ?k30) (L2.DefAt.mk ?a31 ?l31 ?c31 ?k31) (L2.DefAt.mk ?a32 ?l32 ?c32 ?k32) (L2.DefAt.mk ?a33 ?l33 ?c33 ?k33) (L2.DefAt.mk ?a34 ?l34 ?c34 ?k34) (L2.DefAt.mk ?a35 ?l35 ?c35 ?k35) (L2.TupTTAt.three ?tAUNITS ?tLUNITS ?tCUNITS ?tEUNITS ?t1UNITS ?t2UNITS ?t3UNITS) ?z0 ?z1 ?z2 ?z3 ?z4 ?z5 ?z6 ?z7 ?z8 ?z9 ?z10 ?z11
    (case a1 => k_is); (case l1 => k_is); (case c1 => k_is); (case k1 => k_is)
    (case a2 => k_is); (case l2 => k_is); (case c2 => k_is); (case k2 => k_is)
    (case a3 => k_is); (case l3 => k_is); (case c3 => k_is); (case k3 => k_is)
    (case a4 => k_is); (case l4 => k_is); (case c4 => k_is); (case k4 => k_is)
    (case a5 => k_is); (case l5 => k_is); (case c5 => k_is); (case k5 => k_is)
    (case a7 => k_is); (case l7 => k_is); (case c7 => k_is); (case k7 => k_is)
    (case a8 => k_is); (case l8 => k_is); (case c8 => k_is); (case k8 => k_is)
    (case a9 => k_is); (case l9 => k_is); (case c9 => k_is); (case k9 => k_is)
    (case a12 => k_is); (case l12 => k_is); (case c12 => k_is); (case k12 => k_is)
    (case a13 => k_is); (case l13 => k_is); (case c13 => k_is); (case k13 => k_is)
    (case a14 => k_is); (case l14 => k_is); (case c14 => k_is); (case k14 => k_is)
    (case a15 => k_is); (case l15 => k_is); (case c15 => k_is); (case k15 => k_is)
    (case a16 => k_is); (case l16 => k_is); (case c16 => k_is); (case k16 => k_is)
    (case a18 => k_is); (case l18 => k_is); (case c18 => k_is); (case k18 => k_is)
    (case a19 => k_is); (case l19 => k_is); (case c19 => k_is); (case k19 => k_is)
    (case a20 => k_is); (case l20 => k_is); (case c20 => k_is); (case k20 => k_is)
    (case a21 => k_is); (case l21 => k_is); (case c21 => k_is); (case k21 => k_is)
    (case a22 => k_is); (case l22 => k_is); (case c22 => k_is); (case k22 => k_is)
    (case a23 => k_is); (case l23 => k_is); (case c23 => k_is); (case k23 => k_is)
    (case a24 => k_is); (case l24 => k_is); (case c24 => k_is); (case k24 => k_is)
    (case a25 => k_is); (case l25 => k_is); (case c25 => k_is); (case k25 => k_is)
    (case a26 => k_is); (case l26 => k_is); (case c26 => k_is); (case k26 => k_is)
    (case a28 => k_is); (case l28 => k_is); (case c28 => k_is); (case k28 => k_is)
    (case a29 => k_is); (case l29 => k_is); (case c29 => k_is); (case k29 => k_is)
    (case a30 => k_is); (case l30 => k_is); (case c30 => k_is); (case k30 => k_is)
    (case a31 => k_is); (case l31 => k_is); (case c31 => k_is); (case k31 => k_is)
    (case a32 => k_is); (case l32 => k_is); (case c32 => k_is); (case k32 => k_is)
    (case a33 => k_is); (case l33 => k_is); (case c33 => k_is); (case k33 => k_is)
    (case a34 => k_is); (case l34 => k_is); (case c34 => k_is); (case k34 => k_is)
    (case a35 => k_is); (case l35 => k_is); (case c35 => k_is); (case k35 => k_is)
    (case tAUNITS => k_is); (case tLUNITS => k_is); (case tCUNITS => exact rfl); (case tEUNITS => exact rfl)
    (case t1UNITS => (refine' L2.TupT.three ?l ?c ?e; (case l => k_is); (case c => exact rfl); (case e => exact rfl)))
    (case t2UNITS => (refine' L2.TupT.three ?l ?c ?e; (case l => k_is); (case c => exact rfl); (case e => exact rfl)))
    (case t3UNITS => (refine' L2.TupT.three ?l ?c ?e; (case l => k_is); (case c => exact rfl); (case e => exact rfl)))
    (case z0 => k_is)
    (case z1 => k_is)
    (case z2 => k_is)
    (case z3 => k_is)
    (case z4 => k_is)
    (case z5 => k_is)
    (case z6 => k_is)
    (case z7 => k_is)
    (case z8 => k_is)
    (case z9 => k_is)
    (case z10 => k_is)
    (case z11 => k_is)
#print axioms PySem.Challenge.cw_hangrings_k72_points_of_several_turns_holds
end
