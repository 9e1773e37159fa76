import PyProof.Rows.All
import Wide.All
import OpenK.AllK
import Wide.FinOn
import Lean
import PyProof.EqAt
import PyProof.EqKinds
import PyProof.TupleCall
import KE.KUnpack
import KE.KTab
import KE.LcSums
import KE.KSortTup
import KE.KDictAny
import PyProof.WalkInts
import PyProof.MinMaxWalk
import PyProof.P3In
import PySem.Challenge.RW_hangrings_k26_three_points_led
set_option bootstrap.genMatcherCode false
set_option linter.all false
set_option maxRecDepth 100000
set_option Elab.async false
set_option maxHeartbeats 4000000
set_option exponentiation.threshold 200000
section
namespace L2
open PySem PySem.Spec PyProof.Rows
noncomputable abbrev Key := Sum Int Str
noncomputable def keyIs : Key -> Value -> Bool
  | .inl k, v => Value.isInt k v
  | .inr x, v => Value.isStrOf x v
noncomputable def keyH (w : World) : Key -> Int
  | .inl k => hashInt k
  | .inr x => hashStr w x
theorem keyIs_shape : ∀ {k : Key} {v : Value}, keyIs k v = true -> (∃ i t, k = Sum.inl i /\ v = Value.int i t) \/ (∃ x t, k = Sum.inr x /\ v = Value.str x t)
  | .inl i, v, h => by
    obtain ⟨t, e⟩ := Value.isInt_shape (k := i) (v := v) h
    exact .inl ⟨i, t, rfl, e⟩
  | .inr x, v, h => by
    obtain ⟨t, e⟩ := Value.isStrOf_shape (x := x) (v := v) h
    exact .inr ⟨x, t, rfl, e⟩
theorem key_ll (a b : Int) : decide ((Sum.inl a : Key) = Sum.inl b) = (a == b) := by
  by_cases e : a = b
  . subst e; simp
  . have h : ¬ (Sum.inl a : Key) = Sum.inl b := fun q => e (Sum.inl.inj q)
    rw [decide_eq_false h]
    exact (beq_eq_false_iff_ne.mpr e).symm
theorem key_rr (a b : Str) : decide ((Sum.inr a : Key) = Sum.inr b) = decide (a = b) := by
  by_cases e : a = b
  . subst e; simp
  . have h : ¬ (Sum.inr a : Key) = Sum.inr b := fun q => e (Sum.inr.inj q)
    rw [decide_eq_false h, decide_eq_false e]
theorem key_lr (a : Int) (b : Str) : decide ((Sum.inl a : Key) = Sum.inr b) = false := decide_eq_false (fun q => nomatch q)
theorem key_rl (a : Str) (b : Int) : decide ((Sum.inr a : Key) = Sum.inl b) = false := decide_eq_false (fun q => nomatch q)
noncomputable def mixKind (prog : Program) (w : World) : PySem.KeyKind prog w Key where
  is := keyIs
  hash := keyH w
  inj := fun v a b ha hb => by
    rcases keyIs_shape ha with ⟨i, t, rfl, rfl⟩ | ⟨x, t, rfl, rfl⟩
    . rcases keyIs_shape hb with ⟨j, u, rfl, e⟩ | ⟨y, u, rfl, e⟩
      . injection e with e1 _; rw [e1]
      . exact nomatch e
    . rcases keyIs_shape hb with ⟨j, u, rfl, e⟩ | ⟨y, u, rfl, e⟩
      . exact nomatch e
      . injection e with e1 _; rw [e1]
  byValue := fun k v h => by
    rcases keyIs_shape h with ⟨i, t, rfl, rfl⟩ | ⟨x, t, rfl, rfl⟩ <;> rfl
  pyHash := fun hv h => by
    rcases keyIs_shape hv with ⟨i, t, rfl, rfl⟩ | ⟨x, t, rfl, rfl⟩
    . exact wpAny_pyHash_int h
    . exact wpAny_pyHash_str h
  eqBool := fun hu hv h => by
    rcases keyIs_shape hu with ⟨i, t, rfl, rfl⟩ | ⟨x, t, rfl, rfl⟩
    . rcases keyIs_shape hv with ⟨j, u, rfl, rfl⟩ | ⟨y, u, rfl, rfl⟩
      . rw [key_ll] at h; exact wpAny_eqBool_int h
      . rw [key_lr] at h; exact SeqAt.EqAt.int_str i t y u _ _ _ _ h
    . rcases keyIs_shape hv with ⟨j, u, rfl, rfl⟩ | ⟨y, u, rfl, rfl⟩
      . rw [key_rl] at h; exact SeqAt.EqAt.str_int x t j u _ _ _ _ h
      . rw [key_rr] at h; exact wpAny_eqBool_str h
  «strs» := fun k x t v h => by
    rcases keyIs_shape h with ⟨i, u, rfl, e⟩ | ⟨y, u, rfl, e⟩
    . exact nomatch e
    . injection e with e1 _
      subst e1
      cases v <;> rfl
end L2
namespace L2
open PySem PySem.Spec PyProof.Rows
inductive V where
  | non | bl (b : Bool) | int (i : Int) | str (x : Str) | byt (b : Array UInt8) | flt (b : UInt64) | ref (a : Addr) | ty (n : String)
  deriving DecidableEq
noncomputable def RelV : V -> Value -> Prop
  | .non, u => u = Value.none
  | .bl b, u => u = Value.bool b
  | .int i, u => ∃ t, u = Value.int i t
  | .str x, u => ∃ t, u = Value.str x t
  | .byt b, u => ∃ t, u = Value.bytes b t
  | .flt b, u => ∃ t, u = Value.float b t
  | .ref a, u => u = Value.ref a
  | .ty n, u => u = Value.type n
noncomputable abbrev Vals : List V -> List Value -> Prop := Paired RelV
theorem Vals.length {xs : List V} {us : List Value} (r : Vals xs us) : xs.length = us.length := Paired.length r
theorem Vals.get : ∀ {xs : List V} {us : List Value} {i : Nat} {x : V}, Vals xs us -> xs[i]? = some x -> ∃ u, us[i]? = some u /\ RelV x u
  | _, _, _, _, .nil, e => by simp at e
  | _, _, 0, _, .cons r _, e => by simp at e; subst e; exact ⟨_, rfl, r⟩
  | _, _, i + 1, x, .cons _ t, e => by
    obtain ⟨u, h1, h2⟩ := Vals.get (i := i) (x := x) t (by simpa using e)
    exact ⟨u, by simpa using h1, h2⟩
theorem Vals.set {x : V} {u : Value} (r : RelV x u) : ∀ {xs : List V} {us : List Value} (i : Nat), Vals xs us -> Vals (xs.set i x) (us.set i u)
  | _, _, _, .nil => .nil
  | _, _, 0, .cons _ t => .cons r t
  | _, _, i + 1, .cons q t => .cons q (Vals.set r i t)
theorem Vals.append : ∀ {xs ys : List V} {us ws : List Value}, Vals xs us -> Vals ys ws -> Vals (xs ++ ys) (us ++ ws)
  | _, _, _, _, .nil, s => s
  | _, _, _, _, .cons r t, s => .cons r (Vals.append t s)
theorem Vals.take : ∀ {xs : List V} {us : List Value} (n : Nat), Vals xs us -> Vals (xs.take n) (us.take n)
  | _, _, 0, _ => .nil
  | _, _, _ + 1, .nil => .nil
  | _, _, n + 1, .cons r t => .cons r (Vals.take n t)
theorem Vals.drop : ∀ {xs : List V} {us : List Value} (n : Nat), Vals xs us -> Vals (xs.drop n) (us.drop n)
  | _, _, 0, r => r
  | _, _, _ + 1, .nil => .nil
  | _, _, n + 1, .cons _ t => Vals.drop n t
noncomputable def RelO : Option V -> Option Value -> Prop
  | some v, some u => RelV v u
  | none, none => True
  | _, _ => False
noncomputable def KV {κ : Type} : List (κ × V) -> List (κ × Value) -> Prop := Paired fun (p : κ × V) (q : κ × Value) => p.1 = q.1 /\ RelV p.2 q.2
noncomputable def kV : Key -> V
  | .inl i => .int i
  | .inr x => .str x
inductive HO where
  | lst (xs : List V)
  | tup (xs : List V)
  | dK (kvs : List (Key × V)) | dT (kvs : List (List Key × V))
  | set (S : Int -> Bool) (n : Nat)
  | ins (C dx : Addr) (fs : List (Str × V))
  | own (x : Addr)
  | xd (fs : List (Str × V))
  | met (f x : Addr)
  | rng (lo hi : Int)
  | frz (o : Obj) (u : HO)
  | tbl (ps : Array Value)
  | ext (φ : Heap -> Prop)
noncomputable abbrev Hp := Addr -> Option HO
noncomputable def upd (H : Hp) (a : Addr) (o : HO) : Hp := fun b => if b = a then some o else H b
theorem upd_same {H : Hp} {a : Addr} {o : HO} : upd H a o a = some o := by unfold upd; rw [if_pos rfl]
theorem upd_ne {H : Hp} {a b : Addr} {o : HO} (h : b ≠ a) : upd H a o b = H b := by unfold upd; rw [if_neg h]
theorem ne_of {H : Hp} {a b : Addr} {o u : HO} (h : H a = some o) (h' : H b = some u) (d : o ≠ u) : a ≠ b := by
  intro e; subst e; rw [h] at h'; exact d (Option.some.inj h')
theorem ne_of_none {H : Hp} {a b : Addr} {o : HO} (h : H a = some o) (h' : H b = none) : a ≠ b := by
  intro e; subst e; rw [h] at h'; cases h'
section
variable (P : Program) (w : World)
noncomputable def ObjOk (H : Hp) (h : Heap) (a : Addr) : HO -> Prop
  | .lst xs => xs.length <= sizeLine /\ ∃ (its : List Value) (n : Nat), Vals xs its /\ h.get? a = some { cls := .type "list", data := .seq its.toArray n }
  | .tup xs => xs.length <= sizeLine /\ ∃ its : List Value, Vals xs its /\ IsTup h a its.toArray
  | .dK kvs => kvs.length <= sizeLine /\ (a == sysModules) = false /\ ∃ vs, KV kvs vs /\ h.DictOf (mixKind P w) a vs
  | .dT kvs => kvs.length <= sizeLine /\ (a == sysModules) = false /\ ∃ xs : List (List Key × Addr × Value),
      Paired (fun (p : List Key × V) (q : List Key × Addr × Value) => p.1 = q.1 /\ H q.2.1 = some (.tup (p.1.map kV)) /\ RelV p.2 q.2.2) kvs xs /\
      ∃ o es ep, h.get? a = some o /\ o.ExactDict /\ o.data = .dict es ep /\ es.toList = xs.map (entryOfKey (tupleKind (mixKind P w))) /\ (xs.map (·.1)).Nodup
  | .set S n => h.SetOf (intKind P w) a S n
  | .ins C dx fs => H dx = some (.own a) /\ fs.length <= 1000 /\ dx ≠ a /\ h.get? a = some (PySem.W.instObj C dx) /\
      ∃ mA, h.Ns1 dx mA /\ (∀ f, RelO (fs.lookup f) (mA f)) /\ PySem.Within mA (fs.map (·.1))
  | .own _ => ∃ o, h.get? a = some o
  | .xd fs => ∃ mA, h.Ns1 a mA /\ ∀ f, RelO (fs.lookup f) (mA f)
  | .rng lo hi => ∃ t u v, h.get? a = some { cls := .type "range", data := .fields #[.int lo t, .int hi u, .int 1 v] }
  | .frz o u => h.get? a = some o /\ ObjOk H h a u
  | .tbl ps => h.get? a = some { cls := .none, data := .fields ps }
  | .met f x => h.get? a = some (PySem.W.methodObj (.ref f) (.ref x))
  | .ext φ => φ h /\ (∃ o, h.get? a = some o) /\ ∀ h1 h2 : Heap, φ h1 -> (∀ o, h1.get? a = some o -> h2.get? a = some o) -> φ h2
noncomputable def HOk (H : Hp) (h : Heap) : Prop := ∀ a o, H a = some o -> ObjOk P w H h a o
end
section
variable {P : Program} {w : World} {H H' : Hp} {h h' : Heap} {a : Addr} {o : HO}
theorem ObjOk.lt (x : ObjOk P w H h a o) : a < h.objs.size := by
  cases o with
  | lst xs => obtain ⟨_, _, _, _, e⟩ := x; exact Heap.lt_size e
  | tup xs => obtain ⟨_, _, _, p⟩ := x; exact p.lt
  | dK kvs => obtain ⟨_, _, _, _, o, _, _, e, _⟩ := x; exact Heap.lt_size e
  | dT kvs => obtain ⟨_, _, _, _, o, _, _, e, _⟩ := x; exact Heap.lt_size e
  | set S n => obtain ⟨o, _, _, _, e, _⟩ := x; exact Heap.lt_size e
  | ins C dx fs => obtain ⟨_, _, _, e, _⟩ := x; exact Heap.lt_size e
  | own y => obtain ⟨_, e⟩ := x; exact Heap.lt_size e
  | xd fs => obtain ⟨_, ⟨_, _, _, e, _⟩, _⟩ := x; exact Heap.lt_size e
  | rng lo hi => obtain ⟨_, _, _, e⟩ := x; exact Heap.lt_size e
  | frz ob u => obtain ⟨e, _⟩ := x; exact Heap.lt_size e
  | tbl ps => exact Heap.lt_size (show h.get? a = some _ from x)
  | met f y => exact Heap.lt_size (show h.get? a = some _ from x)
  | ext φ => obtain ⟨_, ⟨_, e⟩, _⟩ := x; exact Heap.lt_size e
theorem Paired.mapP {α β : Type} {F G : α -> β -> Prop} : ∀ {l₁ : List α} {l₂ : List β}, Paired F l₁ l₂ -> (∀ a b, F a b -> G a b) -> Paired G l₁ l₂
  | _, _, .nil, _ => .nil
  | _, _, .cons r t, f => .cons (f _ _ r) (Paired.mapP t f)
theorem ObjOk.stay (x : ObjOk P w H h a o) (k : ∀ b u, (b = a \/ H b = some (.own a)) -> h.get? b = some u -> h'.get? b = some u)
    (ho : ∀ b, H b = some (.own a) -> H' b = some (.own a)) (ht : ∀ b xs, H b = some (.tup xs) -> H' b = some (.tup xs)) : ObjOk P w H' h' a o := by
  induction o with
  | lst xs => obtain ⟨z, its, n, r, e⟩ := x; exact ⟨z, its, n, r, k _ _ (.inl rfl) e⟩
  | tup xs => obtain ⟨z, its, r, ob, e, c⟩ := x; exact ⟨z, its, r, ob, k _ _ (.inl rfl) e, c⟩
  | dK kvs => obtain ⟨z, y, vs, r, ob, es, ep, e, c⟩ := x; exact ⟨z, y, vs, r, ob, es, ep, k _ _ (.inl rfl) e, c⟩
  | dT kvs =>
    obtain ⟨z, y, xs, r, ob, es, ep, e, c⟩ := x
    exact ⟨z, y, xs, Paired.mapP r fun p q z => ⟨z.1, ht _ _ z.2.1, z.2.2⟩, ob, es, ep, k _ _ (.inl rfl) e, c⟩
  | set S n => obtain ⟨ob, es, ep, t, e, c⟩ := x; exact ⟨ob, es, ep, t, k _ _ (.inl rfl) e, c⟩
  | ins C dx fs =>
    obtain ⟨d, z, ne, e, mA, ⟨od, es, ep, e2, c⟩, r⟩ := x
    exact ⟨ho _ d, z, ne, k _ _ (.inl rfl) e, mA, ⟨od, es, ep, k _ _ (.inr d) e2, c⟩, r⟩
  | own y => obtain ⟨ob, e⟩ := x; exact ⟨ob, k _ _ (.inl rfl) e⟩
  | xd fs => obtain ⟨mA, ⟨od, es, ep, e, c⟩, r⟩ := x; exact ⟨mA, ⟨od, es, ep, k _ _ (.inl rfl) e, c⟩, r⟩
  | rng lo hi => obtain ⟨t, u, v, e⟩ := x; exact ⟨t, u, v, k _ _ (.inl rfl) e⟩
  | frz ob u ih => obtain ⟨e, q⟩ := x; exact ⟨k _ _ (.inl rfl) e, ih q⟩
  | tbl ps =>
    have e : h.get? a = some { cls := .none, data := .fields ps } := x
    show h'.get? a = some { cls := .none, data := .fields ps }
    exact k a _ (.inl rfl) e
  | met f y =>
    have e : h.get? a = some (PySem.W.methodObj (.ref f) (.ref y)) := x
    show h'.get? a = some (PySem.W.methodObj (.ref f) (.ref y))
    exact k a _ (.inl rfl) e
  | ext φ => obtain ⟨p, ⟨o, e⟩, st⟩ := x; exact ⟨st _ _ p fun o q => k _ _ (.inl rfl) q, ⟨o, k _ _ (.inl rfl) e⟩, st⟩
theorem HOk.lt (x : HOk P w H h) (e : H a = some o) : a < h.objs.size := (x a o e).lt
theorem HOk.fresh (x : HOk P w H h) (e : h.objs.size <= a) : H a = none := by
  cases q : H a with
  | none => rfl
  | some u => exact absurd (Nat.lt_of_lt_of_le (x.lt q) e) (Nat.lt_irrefl _)
theorem HOk.kept (x : HOk P w H h) (k : ∀ b u, h.get? b = some u -> h'.get? b = some u) : HOk P w H h' := fun a o e =>
  (x a o e).stay (fun b u _ q => k b u q) (fun _ q => q) fun _ _ q => q
theorem HOk.laid (x : HOk P w H h) (k : ∀ b u, h.get? b = some u -> h'.get? b = some u) (hp : h.objs.size <= a) (new : ObjOk P w (upd H a o) h' a o) : HOk P w (upd H a o) h' := fun b u e => by
  have hn := x.fresh hp
  by_cases hb : b = a
  . subst hb; rw [upd_same] at e; cases e; exact new
  . rw [upd_ne hb] at e
    exact (x b u e).stay (fun c v _ q => k c v q) (fun c q => by rw [upd_ne (ne_of_none q hn)]; exact q) fun c xs q => by rw [upd_ne (ne_of_none q hn)]; exact q
end
noncomputable def Rd (H : Hp) (a : Addr) (u : HO) : Prop := H a = some u \/ ∃ o, H a = some (.frz o u)
theorem Rd.ok {P : Program} {w : World} {H : Hp} {h : Heap} {a : Addr} {u : HO} (r : Rd H a u) (x : HOk P w H h) : ObjOk P w H h a u := by
  rcases r with r | ⟨o, r⟩
  . exact x a u r
  . obtain ⟨_, q⟩ := x a _ r
    exact q
noncomputable def Mut : Option HO -> Prop
  | some (.lst _) => True
  | some (.dK _) => True
  | some (.dT _) => True
  | some (.set _ _) => True
  | some (.ins _ _ _) => True
  | some (.ext _) => True
  | _ => False
section
variable {P : Program} {w : World} {H : Hp} {h h' : Heap} {x e : Addr} {o' : HO}
theorem HOk.write (ok : HOk P w H h) (mu : Mut (H x)) (he : e = x \/ H e = some (.own x)) (k : ∀ b u, b ≠ e -> h.get? b = some u -> h'.get? b = some u) (heo : ∃ u, h'.get? e = some u)
    (new : ObjOk P w (upd H x o') h' x o') : HOk P w (upd H x o') h' := fun b u q => by
  have nown : ∀ c y, H c = some (.own y) -> c ≠ x := fun c y r z => by subst z; rw [r] at mu; exact mu
  have ntup : ∀ c xs, H c = some (.tup xs) -> c ≠ x := fun c xs r z => by subst z; rw [r] at mu; exact mu
  by_cases hb : b = x
  . subst hb; rw [upd_same] at q; cases q; exact new
  . rw [upd_ne hb] at q
    by_cases hbe : b = e
    . have q' : H b = some (.own x) := by
        rcases he with z | z
        . exact absurd (hbe.trans z) hb
        . rw [hbe]; exact z
      rw [q] at q'; cases q'
      obtain ⟨v, hv⟩ := heo
      exact ⟨v, by rw [hbe]; exact hv⟩
    . refine (ok b u q).stay (fun c v hc r => k c v ?_ r) (fun c r => by rw [upd_ne (nown c b r)]; exact r) fun c xs r => by rw [upd_ne (ntup c xs r)]; exact r
      rcases hc with rfl | hc
      . exact hbe
      . rintro rfl
        rcases he with z | z
        . exact nown c b hc z
        . rw [hc] at z; cases z; exact hb rfl
end
structure Un (fs ex : List Addr) (H H' : Hp) (h h' : Heap) : Prop where
  keep : ∀ b o, h.get? b = some o -> H b = none -> b ∉ fs -> b ∉ ex -> h'.get? b = some o
  slot : ∀ b o, h.get? b = some o -> H b = none -> b ∈ fs -> b ∉ ex -> ∃ sl, h'.get? b = some { o with slots := sl }
  free : ∀ b o, h.get? b = some o -> H b = none -> b ∉ ex -> H' b = none
  there : ∀ b o, h.get? b = some o -> b ∉ ex -> ∃ o', h'.get? b = some o'
  tups : ∀ b xs, H b = some (.tup xs) -> H' b = some (.tup xs)
  frzs : ∀ b o u, H b = some (.frz o u) -> H' b = some (.frz o u)
  tbls : ∀ b ps, H b = some (.tbl ps) -> ∃ more, H' b = some (.tbl (ps ++ more))
section
variable {fs ex : List Addr} {H H1 H2 : Hp} {h h1 h2 h' : Heap} {a x e : Addr} {o : HO}
theorem Un.any (u : Un fs ex H H1 h h1) {b : Addr} {ob : Obj} (q : h.get? b = some ob) (n : H b = none) (hx : b ∉ ex) : ∃ sl, h1.get? b = some { ob with slots := sl } := by
  by_cases hb : b ∈ fs
  . exact u.slot b ob q n hb hx
  . exact ⟨ob.slots, u.keep b ob q n hb hx⟩
theorem Un.kept (k : ∀ b u, h.get? b = some u -> h'.get? b = some u) : Un fs ex H H h h' :=
  ⟨fun b ob q _ _ _ => k b ob q, fun b ob q _ _ _ => ⟨ob.slots, k b ob q⟩, fun _ _ _ n _ => n, fun b ob q _ => ⟨ob, k b ob q⟩, fun _ _ q => q, fun _ _ _ q => q, fun _ ps q => ⟨#[], by rw [q]; simp⟩⟩
theorem Un.refl : Un fs ex H H h h := Un.kept fun _ _ q => q
theorem Un.laid (k : ∀ b u, h.get? b = some u -> h'.get? b = some u) (hp : h.objs.size <= a) (hn : H a = none) : Un fs ex H (upd H a o) h h' where
  keep := fun b u q _ _ _ => k b u q
  slot := fun b u q _ _ _ => ⟨u.slots, k b u q⟩
  free := fun b u q n _ => by rw [upd_ne (Nat.ne_of_lt (Nat.lt_of_lt_of_le (Heap.lt_size q) hp))]; exact n
  there := fun b u q _ => ⟨u, k b u q⟩
  tups := fun b xs q => by rw [upd_ne (ne_of_none q hn)]; exact q
  frzs := fun b u xs q => by rw [upd_ne (ne_of_none q hn)]; exact q
  tbls := fun b ps q => ⟨#[], by rw [upd_ne (ne_of_none q hn), q]; simp⟩
theorem Un.write (mu : Mut (H x)) (he : e = x \/ H e = some (.own x)) (k : ∀ b u, b ≠ e -> h.get? b = some u -> h'.get? b = some u) (heo : ∃ u, h'.get? e = some u) : Un fs ex H (upd H x o) h h' := by
  have hx : ∀ b, H b = none -> b ≠ x := fun b n z => by subst z; rw [n] at mu; exact mu
  have hb : ∀ b, H b = none -> b ≠ e := fun b n z => by
    subst z
    rcases he with r | r
    . exact hx b n r
    . rw [n] at r; cases r
  have hm : ∀ b u, H b = some u -> ¬ Mut (some u) -> b ≠ x := fun b u q nm z => by subst z; rw [q] at mu; exact nm mu
  refine ⟨fun b u q n _ _ => k b u (hb b n) q, fun b u q n _ _ => ⟨u.slots, k b u (hb b n) q⟩, fun b u q n _ => by rw [upd_ne (hx b n)]; exact n, fun b u q _ => ?_,
    fun b xs q => by rw [upd_ne (hm b _ q fun z => z)]; exact q, fun b u xs q => by rw [upd_ne (hm b _ q fun z => z)]; exact q, fun b ps q => ⟨#[], by rw [upd_ne (hm b _ q fun z => z), q]; simp⟩⟩
  by_cases hbe : b = e
  . subst hbe; exact heo
  . exact ⟨u, k b u hbe q⟩
end
noncomputable def trk (h : Heap) (H : Hp) : List Addr := (List.range h.objs.size).filter fun a => (H a).isSome
noncomputable def hidT (h : Heap) (H : Hp) : Heap := PySem.W.hideAll h (trk h H)
theorem hidT_size (h : Heap) (H : Hp) : (hidT h H).objs.size = h.objs.size := PySem.W.hideAll_size _ _
theorem hidT_get {h : Heap} {H : Hp} {b : Addr} {o : Obj} (e : h.get? b = some o) (n : H b = none) : (hidT h H).get? b = some o :=
  PySem.W.hideAll_get _ e fun hm => by
    have q : (H b).isSome = true := (List.mem_filter.mp hm).2
    rw [n] at q; simp at q
theorem of_hidT {h : Heap} {H : Hp} {b : Addr} {o : Obj} (e : (hidT h H).get? b = some o) : h.get? b = some o /\ H b = none := by
  have e' : h.get? b = some o := PySem.W.of_hideAll (trk h H) e
  refine ⟨e', ?_⟩
  cases q : H b with
  | none => rfl
  | some x =>
    have hm : b ∈ trk h H := List.mem_filter.mpr ⟨List.mem_range.mpr (Heap.lt_size e'), by simp [q]⟩
    have z : (hidT h H).get? b = none := PySem.W.hideAll_none (trk h H) hm
    rw [z] at e; cases e
noncomputable def allNews (g h : Heap) (L : Addr) : List (Addr × Obj) := (List.range h.objs.size).filterMap fun a => if a = L \/ (g.get? a).isSome = true then none else (h.get? a).map fun o => (a, o)
noncomputable def rest (g h : Heap) (L d : Addr) : List (Addr × Obj) := (allNews g h L).filter fun p => decide (p.1 ≠ d)
end L2
namespace L2
open PySem PySem.Spec PyProof.Rows
structure Mod (K : PySem.W.Frag) (mg : Str -> Option Value) (base : Heap) : Prop where
  kin : K.In base
  glob : base.Ns mainGlobals mg
  blt : ∃ mb, base.Ns builtinsNs mb /\ ∀ x : Str, x ≠ "__name__" -> mb x = bootBuiltins x
  nolimit : base.NoLimit
structure Cx where
  prog : Program
  w : World
  K : PySem.W.Frag
  mg : Str -> Option Value
  base : Heap
  A : Around
  N : List Str
  s₀ : Shared
  H₀ : Hp
  env : Env
  outer : List Env
  stack : List Env
  ex : List Addr
  fn : Str -> Bool
  calm : Bool
  pn : List (Addr × Obj)
  xe : Value -> Shared -> Prop
noncomputable def frs (l : List Env) : List Addr := l.filterMap (·.frame)
noncomputable abbrev Cx.fs (X : Cx) : List Addr := frs X.outer
noncomputable def Vis (sc : Scope) (x : Str) : Prop := sc.names.lookup x = some .local \/ sc.names.lookup x = some .cell \/ sc.names.lookup x = some .free
noncomputable def Loc (sc : Scope) (x : Str) : Prop := sc.names.lookup x = some .local \/ sc.names.lookup x = some .cell
noncomputable def Look (env : Env) (h : Heap) (m : Str -> Option Value) (x : Str) (u : Value) : Prop :=
  (env.kindOf x = some .local /\ m x = some u) \/ ((env.kindOf x = some .cell \/ env.kindOf x = some .free) /\ ∃ c, env.cells.lookup x = some c /\ h.IsCell c (some u))
structure Cx.Ok (X : Cx) : Prop where
  mod : Mod X.K X.mg X.base
  kind : X.env.scope.kind = .function
  glob : X.env.globals = mainGlobals
  blt : X.env.builtins = builtinsNs
  above : X.s₀.heap.objs.size <= X.env.locals
  inj : ∀ x y c, X.env.cells.lookup x = some c -> X.env.cells.lookup y = some c -> x = y
  has : ∀ x, (X.env.kindOf x = some .cell \/ X.env.kindOf x = some .free) -> ∃ c, X.env.cells.lookup x = some c
  cab : ∀ x c, X.fn x = true -> X.env.cells.lookup x = some c -> X.s₀.heap.objs.size <= c
  hd : X.calm = true -> X.A.handled = none
  frames : X.A.frames = some X.stack
  stk : X.stack = X.outer \/ (X.stack = X.env :: X.outer /\ X.env.frame = some X.env.locals)
  exf : ∀ b ∈ X.ex, b ≠ X.env.locals /\ ∀ x c, X.env.cells.lookup x = some c -> c ≠ b
  bs : ∀ b o, X.base.get? b = some o -> X.s₀.heap.get? b = some o /\ X.H₀ b = none
  bsz : X.base.objs.size <= X.s₀.heap.objs.size
  noex : ∀ b o, X.base.get? b = some o -> b ∉ X.ex
  exfs : ∀ b ∈ X.ex, b ∉ X.fs
  funs : X.s₀.heap.FunFrames X.base X.outer
  frf : ∀ b ∈ X.fs, X.H₀ b = none
structure Inv (X : Cx) (pins : List (Addr × Obj)) (σ : List (Option V)) (H : Hp) (s : Shared) : Prop where
  ok : X.Ok
  os : s.os = X.s₀.os
  bare : AllBare s.gens
  base : Un X.fs X.ex X.H₀ H X.s₀.heap s.heap
  loc : ∃ m, s.heap.Ns X.env.locals m /\ ∀ (i : Nat) (x : Str) (v : V), X.N[i]? = some x -> σ[i]? = some (some v) -> Vis X.env.scope x -> ∃ u, RelV v u /\ Look X.env s.heap m x u
  cell : ∀ x c, X.env.cells.lookup x = some c -> ∃ v, s.heap.IsCell c v
  free : H X.env.locals = none
  freeC : ∀ x c, X.env.cells.lookup x = some c -> H c = none
  pin : ∀ p ∈ X.pn ++ pins, s.heap.get? p.1 = some p.2 /\ H p.1 = none /\ p.1 ≠ X.env.locals /\ p.1 ∉ X.fs /\ ∀ v, p.2.data ≠ .cell v
  hok : HOk X.prog X.w H s.heap
  len : σ.length = X.N.length
section
variable {X : Cx} {pins : List (Addr × Obj)} {σ : List (Option V)} {H H' : Hp} {s : Shared} {h' : Heap}
theorem Cx.Ok.nofr (ok : X.Ok) {b : Addr} {o : Obj} (e : X.base.get? b = some o) : b ∉ X.fs := fun hb => by
  have := (ok.funs.mem hb).1
  rw [e] at this; cases this
theorem Inv.bs (I : Inv X pins σ H s) : ∀ b o, X.base.get? b = some o -> s.heap.get? b = some o /\ H b = none := fun b o e =>
  ⟨I.base.keep b o (I.ok.bs b o e).1 (I.ok.bs b o e).2 (I.ok.nofr e) (I.ok.noex b o e), I.base.free b o (I.ok.bs b o e).1 (I.ok.bs b o e).2 (I.ok.noex b o e)⟩
theorem Inv.bk (I : Inv X pins σ H s) : ∀ b o, X.base.get? b = some o -> s.heap.get? b = some o := fun b o e => (I.bs b o e).1
theorem Inv.mod (I : Inv X pins σ H s) : Mod X.K X.mg X.base := I.ok.mod
theorem Inv.kIn (I : Inv X pins σ H s) : X.K.In s.heap := I.ok.mod.kin.keeps I.bk
theorem Inv.fr (I : Inv X pins σ H s) : ∃ m, Fr X.base X.env.locals s.heap m :=
  let ⟨m, hn, _⟩ := I.loc
  ⟨m, hn, I.bk, Nat.le_trans I.ok.bsz I.ok.above⟩
theorem Inv.lt (I : Inv X pins σ H s) : X.env.locals < s.heap.objs.size := let ⟨_, hn, _⟩ := I.loc; hn.lt
theorem Inv.sz (I : Inv X pins σ H s) : X.s₀.heap.objs.size <= s.heap.objs.size := Nat.le_trans I.ok.above (Nat.le_of_lt I.lt)
theorem Inv.nofs (I : Inv X pins σ H s) {a : Addr} (h : s.heap.objs.size <= a) : a ∉ X.fs := fun hb => by
  obtain ⟨_, o, ho, _⟩ := I.ok.funs.mem hb
  exact absurd (Nat.lt_of_lt_of_le (Heap.lt_size ho) (Nat.le_trans I.sz h)) (Nat.lt_irrefl _)
theorem Inv.cne (I : Inv X pins σ H s) : ∀ x c, X.env.cells.lookup x = some c -> c ≠ X.env.locals := fun x c e z => by
  obtain ⟨v, o, ho, hd⟩ := I.cell x c e
  obtain ⟨m, ⟨o', es, ep, ho', hd', _⟩, _⟩ := I.loc
  rw [z, ho'] at ho; cases ho; rw [hd'] at hd; cases hd
theorem Inv.funs (I : Inv X pins σ H s) : s.heap.FunFrames X.base X.outer := by
  have all : ∀ (l : List Env), (∀ b ∈ frs l, b ∈ X.fs) -> X.s₀.heap.FunFrames X.base l -> s.heap.FunFrames X.base l := by
    intro l
    induction l with
    | nil => intro _ _; trivial
    | cons env r ih =>
      intro hs hl
      obtain ⟨hk, ⟨L, o, hf, hn, ho, hd⟩, hr⟩ := hl
      have hL : L ∈ X.fs := hs L (by unfold frs; rw [List.filterMap_cons, hf]; exact List.mem_cons_self)
      obtain ⟨sl, e⟩ := I.base.slot L o ho (I.ok.frf L hL) hL fun z => I.ok.exfs L z hL
      exact ⟨hk, ⟨L, _, hf, hn, e, hd⟩, ih (fun b hb => hs b (by unfold frs; rw [List.filterMap_cons, hf]; exact List.mem_cons_of_mem _ hb)) hr⟩
  exact all X.outer (fun _ hb => hb) I.ok.funs
theorem Inv.stack (I : Inv X pins σ H s) : s.heap.FunFrames X.base X.stack := by
  rcases I.ok.stk with e | ⟨e, hf⟩
  . rw [e]; exact I.funs
  . rw [e]
    obtain ⟨m, hn, _⟩ := I.loc
    refine .cons (by rw [I.ok.kind]; decide) hf hn ?_ I.funs
    exact Heap.get?_none_of_le (Nat.le_trans I.ok.bsz I.ok.above)
theorem Inv.stkSub (I : Inv X pins σ H s) : ∀ b ∈ frs X.stack, b ∈ X.env.locals :: X.fs := fun b hb => by
  rcases I.ok.stk with e | ⟨e, hf⟩
  . rw [e] at hb; exact List.mem_cons_of_mem _ hb
  . rw [e] at hb
    unfold frs at hb
    rw [List.filterMap_cons, hf] at hb
    exact hb
theorem Inv.stkFree (I : Inv X pins σ H s) : ∀ b ∈ frs X.stack, H b = none := fun b hb => by
  rcases List.mem_cons.mp (I.stkSub b hb) with e | hb
  . rw [e]; exact I.free
  . obtain ⟨_, o, ho, _⟩ := I.ok.funs.mem hb
    exact I.base.free b o ho (I.ok.frf b hb) fun z => I.ok.exfs b z hb
theorem Inv.step {g' : Array GenState} {t' : Nat} {d' : Drawn} {ch : List Addr} (I : Inv X pins σ H s)
    (hch : ∀ b ∈ ch, (b ∈ X.ex \/ X.s₀.heap.objs.size <= b) /\ b ≠ X.env.locals /\ (∀ x c, X.env.cells.lookup x = some c -> c ≠ b) /\ ∀ p ∈ X.pn ++ pins, p.1 ≠ b)
    (keep : ∀ b o, b ≠ X.env.locals -> b ∉ X.fs -> b ∉ ch -> s.heap.get? b = some o -> H b = none -> h'.get? b = some o)
    (slot : ∀ b o, b ≠ X.env.locals -> b ∈ X.fs -> b ∉ ch -> s.heap.get? b = some o -> H b = none -> ∃ sl, h'.get? b = some { o with slots := sl }) (free : ∀ b o, b ∉ ch -> s.heap.get? b = some o -> H b = none -> H' b = none)
    (there : ∀ b o, b ∉ ch -> s.heap.get? b = some o -> ∃ o', h'.get? b = some o')
    (tups : ∀ b xs, H b = some (.tup xs) -> H' b = some (.tup xs)) (frzs : ∀ b o u, H b = some (.frz o u) -> H' b = some (.frz o u)) (tbls : ∀ b ps, H b = some (.tbl ps) -> ∃ more, H' b = some (.tbl (ps ++ more)))
    (ns : ∀ m, s.heap.Ns X.env.locals m -> h'.Ns X.env.locals m) (hok : HOk X.prog X.w H' h') (hg : AllBare g') :
    Inv X pins σ H' { s with heap := h', gens := g', drawn := d', toks := t' } := by
  have neL : ∀ b o, X.s₀.heap.get? b = some o -> b ≠ X.env.locals := fun b o e => Nat.ne_of_lt (Nat.lt_of_lt_of_le (Heap.lt_size e) I.ok.above)
  have neC : ∀ b o, X.s₀.heap.get? b = some o -> b ∉ X.ex -> b ∉ ch := fun b o e hx hb => by
    rcases (hch b hb).1 with z | z
    . exact hx z
    . exact absurd (Nat.lt_of_lt_of_le (Heap.lt_size e) z) (Nat.lt_irrefl _)
  have cellK : ∀ x c, X.env.cells.lookup x = some c -> ∀ v, s.heap.IsCell c v -> h'.IsCell c v := fun x c e v ⟨o, ho, hd⟩ => by
    have nch : c ∉ ch := fun z => (hch c z).2.2.1 x c e rfl
    by_cases hc : c ∈ X.fs
    . obtain ⟨sl, q⟩ := slot c o (I.cne x c e) hc nch ho (I.freeC x c e)
      exact ⟨_, q, hd⟩
    . exact ⟨o, keep c o (I.cne x c e) hc nch ho (I.freeC x c e), hd⟩
  refine ⟨I.ok, I.os, hg, ⟨fun b o e n hb hx => ?_, fun b o e n hb hx => ?_, fun b o e n hx => ?_, fun b o e hx => ?_, fun b xs e => tups b xs (I.base.tups b xs e), fun b o xs e => frzs b o xs (I.base.frzs b o xs e), fun b ps e => ?_⟩, ?_, fun x c e => ?_, ?_, fun x c e => ?_, fun p hp => ?_, hok, I.len⟩
  . exact keep b o (neL b o e) hb (neC b o e hx) (I.base.keep b o e n hb hx) (I.base.free b o e n hx)
  . obtain ⟨sl, e1⟩ := I.base.slot b o e n hb hx
    obtain ⟨sl', e2⟩ := slot b _ (neL b o e) hb (neC b o e hx) e1 (I.base.free b o e n hx)
    exact ⟨sl', e2⟩
  . obtain ⟨o', e1⟩ := I.base.there b o e hx
    exact free b o' (neC b o e hx) e1 (I.base.free b o e n hx)
  . obtain ⟨o', e1⟩ := I.base.there b o e hx
    exact there b o' (neC b o e hx) e1
  . obtain ⟨m1, e1⟩ := I.base.tbls b ps e
    obtain ⟨m2, e2⟩ := tbls b _ e1
    exact ⟨m1 ++ m2, by rw [e2, Array.append_assoc]⟩
  . obtain ⟨m, hn, hl⟩ := I.loc
    refine ⟨m, ns m hn, fun i x v e1 e2 e3 => ?_⟩
    obtain ⟨u, r, l⟩ := hl i x v e1 e2 e3
    refine ⟨u, r, ?_⟩
    rcases l with l | ⟨k, c, e, z⟩
    . exact .inl l
    . exact .inr ⟨k, c, e, cellK x c e _ z⟩
  . obtain ⟨v, z⟩ := I.cell x c e
    exact ⟨v, cellK x c e v z⟩
  . obtain ⟨m, ⟨o, _, _, ho, _⟩, _⟩ := I.loc
    exact free _ o (fun z => (hch _ z).2.1 rfl) ho I.free
  . obtain ⟨v, o, ho, hd⟩ := I.cell x c e
    exact free c o (fun z => (hch c z).2.2.1 x c e rfl) ho (I.freeC x c e)
  . obtain ⟨e, n, ne, nf, d⟩ := I.pin p hp
    have nch : p.1 ∉ ch := fun z => (hch p.1 z).2.2.2 p hp rfl
    exact ⟨keep p.1 p.2 ne nf nch e n, free p.1 p.2 nch e n, ne, nf, d⟩
theorem Inv.un {t' : Nat} (I : Inv X pins σ H s) (u : Un X.fs [] H H' s.heap h') (hok : HOk X.prog X.w H' h') : Inv X pins σ H' { s with heap := h', toks := t' } := by
  obtain ⟨m, ⟨o, es, ep, ho, r⟩, _⟩ := id I.loc
  obtain ⟨sl, hL⟩ := u.any ho I.free (by simp)
  exact I.step (g' := s.gens) (d' := s.drawn) (ch := []) (fun _ z => nomatch z) (fun b o _ hb _ e n => u.keep b o e n hb (by simp)) (fun b o _ hb _ e n => u.slot b o e n hb (by simp)) (fun b o _ e n => u.free b o e n (by simp)) (fun b o _ e => u.there b o e (by simp)) u.tups u.frzs u.tbls (fun m' hm => by
    obtain ⟨o', es', ep', ho', r'⟩ := hm
    rw [ho] at ho'; cases ho'
    exact ⟨_, es', ep', hL, r'⟩) hok I.bare
theorem Inv.call {g' : Array GenState} {t' : Nat} {d' : Drawn} {ch : List Addr} (I : Inv X pins σ H s) (u : Un (frs X.stack) ch H H' s.heap h') (hok : HOk X.prog X.w H' h') (hg : AllBare g')
    (hch : ∀ b ∈ ch, (b ∈ X.ex \/ X.s₀.heap.objs.size <= b) /\ b ≠ X.env.locals /\ (∀ x c, X.env.cells.lookup x = some c -> c ≠ b) /\ ∀ p ∈ X.pn ++ pins, p.1 ≠ b) :
    Inv X pins σ H' { s with heap := h', gens := g', drawn := d', toks := t' } := by
  obtain ⟨m, ⟨o, es, ep, ho, r⟩, _⟩ := id I.loc
  obtain ⟨sl, hL⟩ := u.any ho I.free fun z => (hch _ z).2.1 rfl
  exact I.step (ch := ch) hch (fun b o hL hb hc e n => u.keep b o e n (fun z => (List.mem_cons.mp (I.stkSub b z)).elim hL hb) hc) (fun b o _ _ hc e n => u.any e n hc) (fun b o hc e n => u.free b o e n hc) (fun b o hc e => u.there b o e hc) u.tups u.frzs u.tbls (fun m' hm => by
    obtain ⟨o', es', ep', ho', r'⟩ := hm
    rw [ho] at ho'; cases ho'
    exact ⟨_, es', ep', hL, r'⟩) hok hg
theorem Inv.turned {t' : Nat} {it : Addr} (I : Inv X pins σ H s) (k : ∀ b o, b ≠ it -> s.heap.get? b = some o -> h'.get? b = some o) (hn : H it = none) (hL : it ≠ X.env.locals)
    (h1 : it ∈ X.ex \/ X.s₀.heap.objs.size <= it) (h2 : ∀ x c, X.env.cells.lookup x = some c -> c ≠ it) (h3 : ∀ p ∈ X.pn ++ pins, p.1 ≠ it) : Inv X pins σ H { s with heap := h', toks := t' } := by
  have nit : ∀ b u, H b = some u -> b ≠ it := fun b u e z => by rw [z, hn] at e; cases e
  refine I.step (g' := s.gens) (d' := s.drawn) (ch := [it]) (fun b hb => ?_) (fun b o _ _ hc e _ => k b o (fun z => hc (by simp [z])) e) (fun b o _ _ hc e _ => ⟨o.slots, k b o (fun z => hc (by simp [z])) e⟩) (fun _ _ _ _ n => n)
    (fun b o hc e => ⟨o, k b o (fun z => hc (by simp [z])) e⟩) (fun _ _ e => e) (fun _ _ _ e => e) (fun b ps e => ⟨#[], by rw [e]; simp⟩) (fun m hm => ?_) (fun b u e => ?_) I.bare
  . have e : b = it := by simpa using hb
    subst e
    exact ⟨h1, hL, h2, h3⟩
  . obtain ⟨o, es, ep, ho, r⟩ := hm
    exact ⟨o, es, ep, k _ o (Ne.symm hL) ho, r⟩
  . refine (I.hok b u e).stay (fun c v hc q => k c v ?_ q) (fun _ q => q) fun _ _ q => q
    rcases hc with z | z
    . rw [z]; exact nit b u e
    . exact nit c _ z
theorem Inv.tok (I : Inv X pins σ H s) (t : Nat) : Inv X pins σ H { s with toks := t } := I.un (h' := s.heap) (t' := t) Un.refl I.hok
theorem Inv.kept {t' : Nat} (I : Inv X pins σ H s) (k : ∀ b u, s.heap.get? b = some u -> h'.get? b = some u) : Inv X pins σ H { s with heap := h', toks := t' } := I.un (Un.kept k) (I.hok.kept k)
theorem Inv.laid {a : Addr} {o : HO} {t' : Nat} (I : Inv X pins σ H s) (k : ∀ b u, s.heap.get? b = some u -> h'.get? b = some u) (hp : s.heap.objs.size <= a) (new : ObjOk X.prog X.w (upd H a o) h' a o) :
    Inv X pins σ (upd H a o) { s with heap := h', toks := t' } := I.un (Un.laid k hp (I.hok.fresh hp)) (I.hok.laid k hp new)
theorem Inv.write {x e : Addr} {o : HO} {t' : Nat} (I : Inv X pins σ H s) (mu : Mut (H x)) (he : e = x \/ H e = some (.own x)) (k : ∀ b u, b ≠ e -> s.heap.get? b = some u -> h'.get? b = some u) (heo : ∃ u, h'.get? e = some u)
    (new : ObjOk X.prog X.w (upd H x o) h' x o) : Inv X pins σ (upd H x o) { s with heap := h', toks := t' } := I.un (Un.write mu he k heo) (I.hok.write mu he k heo new)
theorem Inv.pins_of {pins' : List (Addr × Obj)} (I : Inv X pins σ H s) (h : ∀ p ∈ pins', s.heap.get? p.1 = some p.2 /\ H p.1 = none /\ p.1 ≠ X.env.locals /\ p.1 ∉ X.fs /\ ∀ v, p.2.data ≠ .cell v) : Inv X pins' σ H s :=
  ⟨I.ok, I.os, I.bare, I.base, I.loc, I.cell, I.free, I.freeC, fun p hp => (List.mem_append.mp hp).elim (fun z => I.pin p (List.mem_append_left _ z)) (h p), I.hok, I.len⟩
theorem nodup_ix {N : List Str} (hN : N.Nodup) {i j : Nat} {x : Str} (a : N[i]? = some x) (b : N[j]? = some x) : i = j := by
  obtain ⟨h1, e1⟩ := List.getElem?_eq_some_iff.mp a
  obtain ⟨h2, e2⟩ := List.getElem?_eq_some_iff.mp b
  exact (List.getElem_inj hN).mp (e1.trans e2.symm)
theorem store_ok2 {M : Model} {A : Around} {E : Value -> Shared -> Prop} {i : Nat} {x : Str} {v : V} {u : Value} {Q : Unit -> Shared -> Prop} (I : Inv X pins σ H s) (hN : X.N.Nodup) (hi : X.N[i]? = some x) (hx : Loc X.env.scope x) (r : RelV v u)
    (h : ∀ s', Inv X pins (σ.set i (some v)) H s' -> (∃ a, Heap.SameBut a s.heap s'.heap /\ (a = X.env.locals \/ X.env.cells.lookup x = some a)) -> Q () s') (hf : X.fn x = true \/ X.env.scope.names.lookup x = some .local := by first | exact .inl rfl | exact .inr rfl | assumption) : wpAny M A (storeName X.env x u) Q E s := by
  obtain ⟨m, hn, hl⟩ := id I.loc
  have hcls : (X.env.scope.kind == .class || (X.env.scope.kind == .module && X.env.locals != X.env.globals)) = false := by rw [I.ok.kind]; rfl
  have hiσ : i < σ.length := by rw [I.len]; exact (List.getElem?_eq_some_iff.mp hi).1
  have cne := I.cne
  have tracked : ∀ {a : Addr} {h' : Heap}, (∃ o, s.heap.get? a = some o /\ H a = none) -> Heap.SameBut a s.heap h' -> HOk X.prog X.w H h' := fun {a h'} ha hs b ob e => by
    obtain ⟨_, _, hfree⟩ := ha
    refine (I.hok b ob e).stay (fun c w' hc q => (hs.2 c ?_).trans q) (fun _ q => q) fun _ _ q => q
    rintro rfl
    rcases hc with rfl | hc
    . rw [hfree] at e; cases e
    . rw [hfree] at hc; cases hc
  rcases hx with hk | hk
  . refine wpAny_storeName_local hk hn (fun h' hn' hs => ?_) hcls
    obtain ⟨oL, _, _, hoL, _⟩ := id hn
    refine h _ ⟨I.ok, I.os, I.bare, ⟨fun b o e n hb hx => ?_, fun b o e n hb hx => ?_, I.base.free, fun b o e hx => ?_, I.base.tups, I.base.frzs, I.base.tbls⟩, ⟨_, hn', fun j y v' e1 e2 e3 => ?_⟩, fun y c e => ?_, I.free, I.freeC, fun p hp => ?_, tracked ⟨oL, hoL, I.free⟩ hs, by simpa using I.len⟩ ⟨_, hs, .inl rfl⟩
    . exact (hs.2 b (Nat.ne_of_lt (Nat.lt_of_lt_of_le (Heap.lt_size e) I.ok.above))).trans (I.base.keep b o e n hb hx)
    . obtain ⟨sl, e1⟩ := I.base.slot b o e n hb hx
      exact ⟨sl, (hs.2 b (Nat.ne_of_lt (Nat.lt_of_lt_of_le (Heap.lt_size e) I.ok.above))).trans e1⟩
    . obtain ⟨o', e1⟩ := I.base.there b o e hx
      exact ⟨o', (hs.2 b (Nat.ne_of_lt (Nat.lt_of_lt_of_le (Heap.lt_size e) I.ok.above))).trans e1⟩
    . by_cases hj : j = i
      . subst hj
        rw [hi] at e1; cases e1
        rw [List.getElem?_set_self hiσ] at e2
        cases e2
        exact ⟨u, r, .inl ⟨hk, by simp⟩⟩
      . rw [List.getElem?_set_ne (Ne.symm hj)] at e2
        obtain ⟨u', r', q⟩ := hl j y v' e1 e2 e3
        refine ⟨u', r', ?_⟩
        rcases q with ⟨k, e⟩ | ⟨k, c, e, z⟩
        . refine .inl ⟨k, ?_⟩
          have : y ≠ x := fun e => hj (nodup_ix hN e1 (e ▸ hi))
          simp [this, e]
        . exact .inr ⟨k, c, e, z.sameBut hs (cne y c e)⟩
    . obtain ⟨w', z⟩ := I.cell y c e
      exact ⟨w', z.sameBut hs (cne y c e)⟩
    . obtain ⟨e, n, ne, nf, d⟩ := I.pin p hp
      exact ⟨(hs.2 p.1 ne).trans e, n, ne, nf, d⟩
  . have hfn : X.fn x = true := by
      rcases hf with z | z
      . exact z
      . rw [z] at hk; cases hk
    obtain ⟨c, hc⟩ := I.ok.has x (.inl hk)
    obtain ⟨w', z⟩ := I.cell x c hc
    refine wpAny_storeName_cell I.ok.kind hk hc z (fun h' hc' hs => ?_)
    obtain ⟨oc, hoc, hocd⟩ := id z
    refine h { s with heap := h' } ⟨I.ok, I.os, I.bare, ⟨fun b o e n hb hx => ?_, fun b o e n hb hx => ?_, I.base.free, fun b o e hx => ?_, I.base.tups, I.base.frzs, I.base.tbls⟩, ⟨m, hn.sameBut hs (Ne.symm (cne x c hc)), fun j y v' e1 e2 e3 => ?_⟩, fun y c' e => ?_, I.free, I.freeC, fun p hp => ?_, tracked ⟨oc, hoc, I.freeC x c hc⟩ hs, by simpa using I.len⟩ ⟨c, hs, .inr hc⟩
    . exact (hs.2 b (Nat.ne_of_lt (Nat.lt_of_lt_of_le (Heap.lt_size e) (I.ok.cab x c hfn hc)))).trans (I.base.keep b o e n hb hx)
    . obtain ⟨sl, e1⟩ := I.base.slot b o e n hb hx
      exact ⟨sl, (hs.2 b (Nat.ne_of_lt (Nat.lt_of_lt_of_le (Heap.lt_size e) (I.ok.cab x c hfn hc)))).trans e1⟩
    . obtain ⟨o', e1⟩ := I.base.there b o e hx
      exact ⟨o', (hs.2 b (Nat.ne_of_lt (Nat.lt_of_lt_of_le (Heap.lt_size e) (I.ok.cab x c hfn hc)))).trans e1⟩
    . by_cases hj : j = i
      . subst hj
        rw [hi] at e1; cases e1
        rw [List.getElem?_set_self hiσ] at e2
        cases e2
        exact ⟨u, r, .inr ⟨.inl hk, c, hc, hc'⟩⟩
      . rw [List.getElem?_set_ne (Ne.symm hj)] at e2
        obtain ⟨u', r', q⟩ := hl j y v' e1 e2 e3
        refine ⟨u', r', ?_⟩
        rcases q with q | ⟨k, c', e, z'⟩
        . exact .inl q
        . refine .inr ⟨k, c', e, z'.sameBut hs ?_⟩
          rintro rfl
          exact hj (nodup_ix hN e1 (I.ok.inj _ _ _ e hc ▸ hi))
    . by_cases hcc : c' = c
      . subst hcc; exact ⟨_, hc'⟩
      . obtain ⟨w2, z2⟩ := I.cell y c' e
        exact ⟨w2, z2.sameBut hs hcc⟩
    . obtain ⟨e, n, ne, nf, d⟩ := I.pin p hp
      refine ⟨(hs.2 p.1 ?_).trans e, n, ne, nf, d⟩
      intro q
      rw [q, hoc] at e
      have q' : oc = p.2 := Option.some.inj e
      exact d w' (by rw [<- q']; exact hocd)
theorem store_ok {M : Model} {A : Around} {E : Value -> Shared -> Prop} {i : Nat} {x : Str} {v : V} {u : Value} {Q : Unit -> Shared -> Prop} (I : Inv X pins σ H s) (hN : X.N.Nodup) (hi : X.N[i]? = some x) (hx : Loc X.env.scope x) (r : RelV v u)
    (h : ∀ s', Inv X pins (σ.set i (some v)) H s' -> Q () s') (hf : X.fn x = true \/ X.env.scope.names.lookup x = some .local := by first | exact .inl rfl | exact .inr rfl | assumption) : wpAny M A (storeName X.env x u) Q E s :=
  store_ok2 I hN hi hx r (fun s' I' _ => h s' I') hf
theorem Inv.call' {s' : Shared} {ch : List Addr} (I : Inv X pins σ H s) (ho : s'.os = s.os) (u : Un (frs X.stack) ch H H' s.heap s'.heap) (hok : HOk X.prog X.w H' s'.heap) (hg : AllBare s'.gens)
    (hch : ∀ b ∈ ch, (b ∈ X.ex \/ X.s₀.heap.objs.size <= b) /\ b ≠ X.env.locals /\ (∀ x c, X.env.cells.lookup x = some c -> c ≠ b) /\ ∀ p ∈ X.pn ++ pins, p.1 ≠ b) : Inv X pins σ H' s' := by
  obtain ⟨h', g', d', t', o'⟩ := s'
  have e : o' = s.os := ho
  subst e
  exact I.call (g' := g') (t' := t') (d' := d') u hok hg hch
end
noncomputable abbrev XK := Value -> Option Addr -> Hp -> Prop
noncomputable abbrev St := List (Option V)
noncomputable abbrev VK := V -> Hp -> Prop
noncomputable abbrev TE := St -> Hp -> VK -> Prop
noncomputable abbrev TT := St -> Hp -> (Bool -> Hp -> Prop) -> Prop
noncomputable abbrev TA := St -> Hp -> (List V -> Hp -> Prop) -> Prop
structure Ends where
  nx : St -> Hp -> Prop
  rt : VK
  bk : St -> Hp -> Prop := fun _ _ => False
  ct : St -> Hp -> Prop := fun _ _ => False
noncomputable abbrev TS := Ends -> St -> Hp -> Prop
noncomputable def EP (X : Cx) (pins : List (Addr × Obj)) (σ : St) (Q : VK) (u : Value) (s' : Shared) : Prop := ∃ v H', Inv X pins σ H' s' /\ RelV v u /\ Q v H'
noncomputable def TP (X : Cx) (pins : List (Addr × Obj)) (σ : St) (Q : Bool -> Hp -> Prop) (b : Bool) (s' : Shared) : Prop := ∃ H', Inv X pins σ H' s' /\ Q b H'
noncomputable def AP (X : Cx) (pins : List (Addr × Obj)) (σ : St) (Q : List V -> Hp -> Prop) (us : List Value) (s' : Shared) : Prop := ∃ vs H', Inv X pins σ H' s' /\ Vals vs us /\ Q vs H'
noncomputable def SP (X : Cx) (pins : List (Addr × Obj)) (D : Ends) (f : Flow) (s' : Shared) : Prop :=
  match f with
  | .next => ∃ σ' H', Inv X pins σ' H' s' /\ D.nx σ' H'
  | .brk => ∃ σ' H', Inv X pins σ' H' s' /\ D.bk σ' H'
  | .cont => ∃ σ' H', Inv X pins σ' H' s' /\ D.ct σ' H'
  | .ret u => ∃ v σ' H', Inv X pins σ' H' s' /\ RelV v u /\ D.rt v H'
noncomputable def PE (X : Cx) (e : Expr) (t : TE) : Prop :=
  ∀ (pins : List (Addr × Obj)) (s : Shared) (σ : St) (H : Hp) (Q : VK), Inv X pins σ H s -> t σ H Q -> wpAny (model X.prog X.w) X.A (eval e X.env) (EP X pins σ Q) X.xe s
noncomputable def PT (X : Cx) (e : Expr) (t : TT) : Prop :=
  ∀ (pins : List (Addr × Obj)) (s : Shared) (σ : St) (H : Hp) (Q : Bool -> Hp -> Prop), Inv X pins σ H s -> t σ H Q -> wpAny (model X.prog X.w) X.A (isTrue e X.env (eval e X.env)) (TP X pins σ Q) X.xe s
noncomputable def PW (X : Cx) (e : Expr) (t : TT) : Prop :=
  ∀ (whole : Sem Value) (pins : List (Addr × Obj)) (s : Shared) (σ : St) (H : Hp) (Q : Bool -> Hp -> Prop), Inv X pins σ H s -> t σ H Q -> wpAny (model X.prog X.w) X.A (isTrue e X.env whole) (TP X pins σ Q) X.xe s
theorem PW.pt {X : Cx} {e : Expr} {t : TT} (h : PW X e t) : PT X e t := h _
noncomputable def PA (X : Cx) (es : List Expr) (t : TA) : Prop :=
  ∀ (pos : Pos) (pins : List (Addr × Obj)) (s : Shared) (σ : St) (H : Hp) (Q : List V -> Hp -> Prop), Inv X pins σ H s -> t σ H Q -> wpAny (model X.prog X.w) X.A (spliced (backTo pos (starEach es X.env))) (AP X pins σ Q) X.xe s
noncomputable def PS (X : Cx) (st : Stmt) (t : TS) : Prop :=
  ∀ (pins : List (Addr × Obj)) (s : Shared) (σ : St) (H : Hp) (D : Ends), Inv X pins σ H s -> t D σ H -> wpAny (model X.prog X.w) X.A (exec st X.env) (SP X pins D) X.xe s
noncomputable def PSs (X : Cx) (st : List Stmt) (t : TS) : Prop :=
  ∀ (pins : List (Addr × Obj)) (s : Shared) (σ : St) (H : Hp) (D : Ends), Inv X pins σ H s -> t D σ H -> wpAny (model X.prog X.w) X.A (execs st X.env) (SP X pins D) X.xe s
theorem thn {α : Type} {t : Sem α} {Q Q' : α -> Shared -> Prop} {M : Model} {A : Around} {E : Value -> Shared -> Prop} {s : Shared} (h : wpAny M A t Q E s) (hQ : ∀ a s, Q a s -> Q' a s) : wpAny M A t Q' E s := wpAny_mono h hQ fun _ _ x => x
end L2
namespace L2
open PySem PySem.Spec PyProof.Rows
section
variable {X : Cx}
theorem bin {a b : Expr} {ta tb : TE} (ha : PE X a ta) (hb : PE X b tb) {pins : List (Addr × Obj)} {s : Shared} {σ : St} {H : Hp} {R : V -> V -> Hp -> Prop} (I : Inv X pins σ H s) (h : ta σ H fun x H1 => tb σ H1 fun y H2 => R x y H2)
    {α : Type} {Q : α -> Shared -> Prop} {f : Value -> Value -> Sem α}
    (hf : ∀ v u s2 x y H2, Inv X pins σ H2 s2 -> RelV x v -> RelV y u -> R x y H2 -> wpAny (model X.prog X.w) X.A (f v u) Q X.xe s2) :
    wpAny (model X.prog X.w) X.A (eval a X.env) (fun v s₁ => wpAny (model X.prog X.w) X.A (eval b X.env) (fun u s₂ => wpAny (model X.prog X.w) X.A (f v u) Q X.xe s₂) X.xe s₁) X.xe s := by
  refine thn (ha pins s σ H _ I h) fun v s1 ⟨x, H1, I1, r1, q1⟩ => ?_
  refine thn (hb pins s1 σ H1 _ I1 q1) fun u s2 ⟨y, H2, I2, r2, q2⟩ => ?_
  exact hf v u s2 x y H2 I2 r1 r2 q2
noncomputable def tVar (i : Nat) : TE := fun σ H Q => ∃ v, σ[i]? = some (some v) /\ Q v H
noncomputable def tC (v : V) : TE := fun _ H Q => Q v H
theorem pe_var {i : Nat} {x : Str} {pos : Pos} (hN : X.N[i]? = some x) (hv : Vis X.env.scope x) (hd : (x == ("__debug__" : Str)) = false := by decide) (hcd : (x == ("__classdict__" : Str)) = false := by decide) : PE X (.Name x pos) (tVar i) := by
  intro pins s σ H Q I h
  obtain ⟨v, e, h⟩ := h
  obtain ⟨m, hn, hl⟩ := I.loc
  obtain ⟨u, r, l⟩ := hl i x v hN e hv
  have fin : EP X pins σ Q u s := ⟨v, H, I, r, h⟩
  rcases l with ⟨hk, hm⟩ | ⟨hk, c, hc, hcell⟩
  . exact wpAny_Name (wpAny_loadName_local I.ok.kind hk hn hm fin) hd
  . rcases hk with hk | hk
    . exact wpAny_Name (wpAny_loadName_cell I.ok.kind hk hc hcell fin) hd
    . exact wpAny_Name (wpAny_loadName_free I.ok.kind hk hc hcell fin hcd) hd
theorem pe_int {i j pos} : PE X (.Constant (.int i) j pos) (tC (.int i)) := fun _ _ _ H _ I h => wpAny_Constant_int ⟨.int i, H, I.tok _, ⟨_, rfl⟩, h⟩
theorem pe_bl {b j pos} : PE X (.Constant (.bool b) j pos) (tC (.bl b)) := fun _ _ _ H _ I h => Constant_bool ⟨.bl b, H, I, rfl, h⟩
theorem pe_non {j pos} : PE X (.Constant .none j pos) (tC .non) := fun _ _ _ H _ I h => Constant_none ⟨.non, H, I, rfl, h⟩
theorem pe_str {x j pos} : PE X (.Constant (.str x) j pos) (tC (.str x)) := fun _ _ _ H _ I h => Calls.Constant_str ⟨.str x, H, I.tok _, ⟨_, rfl⟩, h⟩
noncomputable def Gl (X : Cx) (x : Str) : Prop := X.env.kindOf x = some .globalImplicit
theorem ld_glob {E : Value -> Shared -> Prop} {pins : List (Addr × Obj)} {s : Shared} {σ : St} {H : Hp} {x : Str} {u : Value} {pos : Pos} {Q : Value -> Shared -> Prop} (I : Inv X pins σ H s) (hg : Gl X x) (hm : X.mg x = some u) (h : Q u s)
    (hd : (x == ("__debug__" : Str)) = false := by decide) : wpAny (model X.prog X.w) X.A (eval (.Name x pos) X.env) Q E s :=
  Calls.Name_function_global I.ok.kind hg (Calls.loadGlobal_global (by rw [I.ok.glob]; exact I.mod.glob.keeps I.bk) hm h) hd
theorem ld_blt {E : Value -> Shared -> Prop} {pins : List (Addr × Obj)} {s : Shared} {σ : St} {H : Hp} {x : Str} {u : Value} {pos : Pos} {Q : Value -> Shared -> Prop} (I : Inv X pins σ H s) (hg : Gl X x) (hm : X.mg x = none) (hv : bootBuiltins x = some u) (h : Q u s)
    (hn : x ≠ "__name__" := by decide) (hd : (x == ("__debug__" : Str)) = false := by decide) : wpAny (model X.prog X.w) X.A (eval (.Name x pos) X.env) Q E s := by
  obtain ⟨mb, h1, h2⟩ := I.mod.blt
  exact Calls.Name_function_global I.ok.kind hg (Calls.loadGlobal_builtin (by rw [I.ok.glob]; exact I.mod.glob.keeps I.bk) hm (by rw [I.ok.blt]; exact h1.keeps I.bk) ((h2 x hn).trans hv) h) hd
theorem pe_glob {x : Str} {v : V} {u : Value} {pos : Pos} (hg : Gl X x) (hm : X.mg x = some u) (r : RelV v u) (hd : (x == ("__debug__" : Str)) = false := by decide) : PE X (.Name x pos) (tC v) :=
  fun _ _ _ H _ I h => ld_glob I hg hm ⟨v, H, I, r, h⟩ hd
theorem pe_bltn {x : Str} {v : V} {u : Value} {pos : Pos} (hg : Gl X x) (hm : X.mg x = none) (hv : bootBuiltins x = some u) (r : RelV v u) (hn : x ≠ "__name__" := by decide) (hd : (x == ("__debug__" : Str)) = false := by decide) : PE X (.Name x pos) (tC v) :=
  fun _ _ _ H _ I h => ld_blt I hg hm hv ⟨v, H, I, r, h⟩ hn hd
variable {a b : Expr} {ta tb : TE} {pos : Pos}
noncomputable def PC (X : Cx) (op : CmpOp) (a b : Expr) (t : TE) : Prop :=
  ∀ (pins : List (Addr × Obj)) (s : Shared) (σ : St) (H : Hp) (Q : VK), Inv X pins σ H s -> t σ H Q ->
    wpAny (model X.prog X.w) X.A (eval a X.env) (fun v s₁ => wpAny (model X.prog X.w) X.A (eval b X.env) (fun u s₂ => wpAny (model X.prog X.w) X.A (compareOp op v u) (EP X pins σ Q) X.xe s₂) X.xe s₁) X.xe s
noncomputable def tB (t : TE) : TT := fun σ H Q => t σ H fun x H1 => ∃ c, x = .bl c /\ Q c H1
theorem pt_cmp {op : CmpOp} {t : TE} (h : PC X op a b t) (h1 : behindInMarks op b = false := by first | exact nobehind _ (by decide) (by decide) | rfl) : PT X (.Compare a [op] [b] pos) (tB t) := by
  intro pins s σ H Q I hw
  refine wpAny_isTrue_Compare1 (thn (h pins s σ H _ I hw) fun v s1 h1 => thn h1 fun u s2 h2 => thn h2 fun c s3 ⟨x, H1, I1, r1, q1⟩ => ?_) h1
  obtain ⟨d, rfl, q⟩ := q1
  cases r1
  exact wpAny_truthy_bool ⟨H1, I1, q⟩
theorem pt_val {e : Expr} {t : TE} (h : PE X e t) (he : ∀ whole, isTrue e X.env whole = (do let v <- whole; standAt e.pos; holding [v] (truthy v)) := by intro _; rfl) : PT X e (tB t) := by
  intro pins s σ H Q I hw
  refine isTrue_plain (thn (h pins s σ H _ I hw) fun v s1 ⟨x, H1, I1, r1, q1⟩ => ?_) (he _)
  obtain ⟨d, rfl, q⟩ := q1
  cases r1
  exact wpAny_truthy_bool ⟨H1, I1, q⟩
variable {tA tB' : TT} {rest : List Expr}
noncomputable def tAnd (t u : TT) : TT := fun σ H Q => t σ H fun c H1 => if c = true then u σ H1 Q else Q false H1
noncomputable def tOr (t u : TT) : TT := fun σ H Q => t σ H fun c H1 => if c = true then Q true H1 else u σ H1 Q
noncomputable def tNot (t : TT) : TT := fun σ H Q => t σ H fun c H1 => Q (!c) H1
theorem pw_and1 (ha : PT X a tA) : PW X (.BoolOp .And [a] pos) tA := by
  intro wh pins s σ H Q I h
  refine isTrue_and (thn (ha pins s σ H Q I h) fun c s1 e => ?_)
  cases c with
  | true => exact isTrue_and_nil e
  | false => exact e
theorem pw_or1 (ha : PT X a tA) : PW X (.BoolOp .Or [a] pos) tA := by
  intro wh pins s σ H Q I h
  refine isTrue_or (thn (ha pins s σ H Q I h) fun c s1 e => ?_)
  cases c with
  | false => exact isTrue_or_nil e
  | true => exact e
theorem pw_and (ha : PT X a tA) (hb : PW X (.BoolOp .And (b :: rest) pos) tB') : PW X (.BoolOp .And (a :: b :: rest) pos) (tAnd tA tB') := by
  intro wh pins s σ H Q I h
  refine isTrue_and (thn (ha pins s σ H _ I h) fun c s1 ⟨H1, I1, q1⟩ => ?_)
  cases c with
  | true => exact hb wh pins s1 σ H1 Q I1 q1
  | false => exact ⟨H1, I1, q1⟩
theorem pw_or (ha : PT X a tA) (hb : PW X (.BoolOp .Or (b :: rest) pos) tB') : PW X (.BoolOp .Or (a :: b :: rest) pos) (tOr tA tB') := by
  intro wh pins s σ H Q I h
  refine isTrue_or (thn (ha pins s σ H _ I h) fun c s1 ⟨H1, I1, q1⟩ => ?_)
  cases c with
  | true => exact ⟨H1, I1, q1⟩
  | false => exact hb wh pins s1 σ H1 Q I1 q1
theorem pt_not (ha : PT X a tA) : PT X (.UnaryOp .Not a pos) (tNot tA) := by
  intro pins s σ H Q I h
  exact isTrue_not (ha pins s σ H (fun c H1 => Q (!c) H1) I h)
noncomputable def tAndV (ta tb : TE) : TE := fun σ H Q => ta σ H fun x H1 => ∃ c, x = .bl c /\ if c = true then tb σ H1 Q else Q (.bl false) H1
noncomputable def tNotV (ta : TE) : TE := fun σ H Q => ta σ H fun x H1 => ∃ c, x = .bl c /\ Q (.bl (!c)) H1
theorem pe_one {op} {t : TE} (h : PE X a t) : PE X (.BoolOp op [a] pos) t := fun pins s σ H Q I hw => BoolOp_one (h pins s σ H Q I hw)
theorem pe_and (ha : PE X a ta) (hb : PE X (.BoolOp .And (b :: rest) pos) tb) : PE X (.BoolOp .And (a :: b :: rest) pos) (tAndV ta tb) := by
  intro pins s σ H Q I h
  refine BoolOp_and (thn (ha pins s σ H _ I h) fun v s1 ⟨x, H1, I1, r1, q1⟩ => ?_)
  obtain ⟨c, rfl, q1⟩ := q1
  cases r1
  refine wpAny_truthy_bool ?_
  cases c with
  | true => exact hb pins s1 σ H1 Q I1 q1
  | false => exact ⟨.bl false, H1, I1, rfl, q1⟩
theorem pe_not (ha : PE X a ta) : PE X (.UnaryOp .Not a pos) (tNotV ta) := by
  intro pins s σ H Q I h
  refine UnaryOp_ (thn (ha pins s σ H _ I h) fun v s1 ⟨x, H1, I1, r1, q1⟩ => ?_)
  obtain ⟨c, rfl, q1⟩ := q1
  cases r1
  exact not_of (wpAny_truthy_bool ⟨.bl (!c), H1, I1, rfl, q1⟩)
end
end L2
namespace L2
open PySem PySem.Spec PyProof.Rows
noncomputable def SqL (K : PySem.W.Frag) (H : Hp) (a : Addr) (xs : List V) : Prop :=
  Rd H a (.lst xs) \/
    ∃ (o : Obj) (its : Array Value) (n : Nat), K.lookup a = some o /\ o.cls = .type "list" /\ o.dict = none /\ o.data = .seq its n /\ its.size <= sizeLine /\ Vals xs its.toList
noncomputable def SqT (K : PySem.W.Frag) (H : Hp) (a : Addr) (xs : List V) : Prop :=
  Rd H a (.tup xs) \/
    ∃ (o : Obj) (its : Array Value) (n : Nat), K.lookup a = some o /\ o.cls = .type "tuple" /\ o.data = .seq its n /\ its.size <= sizeLine /\ Vals xs its.toList
noncomputable def absV : Value -> Option V
  | .none => some .non
  | .bool b => some (.bl b)
  | .int i _ => some (.int i)
  | .str x _ => some (.str x)
  | .bytes b _ => some (.byt b)
  | .float b _ => some (.flt b)
  | .ref a => some (.ref a)
  | .type n => some (.ty n)
  | _ => none
theorem RelV.abs {x : V} {u : Value} (r : RelV x u) : absV u = some x := by
  cases x with
  | non => cases r; rfl
  | bl _ => cases r; rfl
  | int _ => obtain ⟨t, rfl⟩ := r; rfl
  | str _ => obtain ⟨t, rfl⟩ := r; rfl
  | byt _ => obtain ⟨t, rfl⟩ := r; rfl
  | flt _ => obtain ⟨t, rfl⟩ := r; rfl
  | ref _ => cases r; rfl
  | ty _ => cases r; rfl
theorem RelV.inj {x y : V} {u : Value} (r : RelV x u) (q : RelV y u) : x = y := Option.some.inj (r.abs.symm.trans q.abs)
theorem Vals.inj : ∀ {xs ys : List V} {us : List Value}, Vals xs us -> Vals ys us -> xs = ys
  | _, _, _, .nil, .nil => rfl
  | _, _, _, .cons r t, .cons r' t' => by rw [r.inj r', Vals.inj t t']
section
variable {X : Cx} {pins : List (Addr × Obj)} {σ : St} {H : Hp} {s : Shared} {a : Addr} {xs ys : List V}
theorem SqL.of {K : PySem.W.Frag} (h : H a = some (.lst xs)) : SqL K H a xs := .inl (.inl h)
theorem SqT.of {K : PySem.W.Frag} (h : H a = some (.tup xs)) : SqT K H a xs := .inl (.inl h)
theorem Inv.list (I : Inv X pins σ H s) (h : SqL X.K H a xs) : ∃ its : List Value, Vals xs its /\ PlainL s.heap a its.toArray /\ xs.length <= sizeLine := by
  rcases h with h | ⟨o, its, n, hk, hc, hd, hs, hz, r⟩
  . obtain ⟨z, its, n, r, e⟩ := h.ok I.hok
    exact ⟨its, r, ⟨_, n, e, rfl, rfl, rfl⟩, z⟩
  . refine ⟨its.toList, r, ⟨o, n, I.kIn a o hk, hc, hd, by simpa using hs⟩, ?_⟩
    have e := r.length
    simp only [Array.length_toList] at e
    omega
theorem Inv.tuple (I : Inv X pins σ H s) (h : SqT X.K H a xs) : ∃ its : List Value, Vals xs its /\ IsTup s.heap a its.toArray /\ xs.length <= sizeLine := by
  rcases h with h | ⟨o, its, n, hk, hc, hs, hz, r⟩
  . obtain ⟨z, its, r, p⟩ := h.ok I.hok
    exact ⟨its, r, p, z⟩
  . refine ⟨its.toList, r, ⟨o, I.kIn a o hk, hc, n, by simpa using hs⟩, ?_⟩
    have e := r.length
    simp only [Array.length_toList] at e
    omega
theorem Inv.list_inj (I : Inv X pins σ H s) (h : SqL X.K H a xs) (h' : SqL X.K H a ys) : xs = ys := by
  obtain ⟨its, r, ⟨o, n, e, _, _, d⟩, _⟩ := I.list h
  obtain ⟨its', r', ⟨o', n', e', _, _, d'⟩, _⟩ := I.list h'
  rw [e] at e'; cases e'
  rw [d] at d'
  injection d' with d1 _
  have : its = its' := by simpa using congrArg Array.toList d1
  subst this
  exact r.inj r'
theorem Inv.tuple_inj (I : Inv X pins σ H s) (h : SqT X.K H a xs) (h' : SqT X.K H a ys) : xs = ys := by
  obtain ⟨its, r, ⟨o, e, _, n, d⟩, _⟩ := I.tuple h
  obtain ⟨its', r', ⟨o', e', _, n', d'⟩, _⟩ := I.tuple h'
  rw [e] at e'; cases e'
  rw [d] at d'
  injection d' with d1 _
  have : its = its' := by simpa using congrArg Array.toList d1
  subst this
  exact r.inj r'
end
noncomputable abbrev Cx.wish (X : Cx) (E : Value -> Shared -> Prop) : Cx := { X with xe := E }
noncomputable abbrev Cx.nox (X : Cx) : Cx := X.wish fun _ _ => False
theorem Cx.Ok.wish {X : Cx} (ok : X.Ok) (E : Value -> Shared -> Prop) : (X.wish E).Ok :=
  ⟨ok.mod, ok.kind, ok.glob, ok.blt, ok.above, ok.inj, ok.has, ok.cab, ok.hd, ok.frames, ok.stk, ok.exf, ok.bs, ok.bsz, ok.noex, ok.exfs, ok.funs, ok.frf⟩
theorem Cx.Ok.unwish {X : Cx} {E : Value -> Shared -> Prop} (ok : (X.wish E).Ok) : X.Ok :=
  ⟨ok.mod, ok.kind, ok.glob, ok.blt, ok.above, ok.inj, ok.has, ok.cab, ok.hd, ok.frames, ok.stk, ok.exf, ok.bs, ok.bsz, ok.noex, ok.exfs, ok.funs, ok.frf⟩
section
variable {X : Cx} {pins : List (Addr × Obj)} {σ : St} {H : Hp} {s : Shared} {E : Value -> Shared -> Prop}
theorem Inv.wish (I : Inv X pins σ H s) (E : Value -> Shared -> Prop) : Inv (X.wish E) pins σ H s := ⟨I.ok.wish E, I.os, I.bare, I.base, I.loc, I.cell, I.free, I.freeC, I.pin, I.hok, I.len⟩
theorem Inv.unwish (I : Inv (X.wish E) pins σ H s) : Inv X pins σ H s := ⟨I.ok.unwish, I.os, I.bare, I.base, I.loc, I.cell, I.free, I.freeC, I.pin, I.hok, I.len⟩
theorem SP.unwish {D : Ends} {f : Flow} {s' : Shared} (h : SP (X.wish E) pins D f s') : SP X pins D f s' := by
  cases f with
  | next => obtain ⟨σ', H', I, q⟩ := h; exact ⟨σ', H', I.unwish, q⟩
  | brk => obtain ⟨σ', H', I, q⟩ := h; exact ⟨σ', H', I.unwish, q⟩
  | cont => obtain ⟨σ', H', I, q⟩ := h; exact ⟨σ', H', I.unwish, q⟩
  | ret u => obtain ⟨v, σ', H', I, r, q⟩ := h; exact ⟨v, σ', H', I.unwish, r, q⟩
theorem PSs.nox {st : List Stmt} {t : TS} (h : PSs X.nox st t) : PSs X st t := fun pins s σ H D I hw =>
  wpAny_mono (h pins s σ H D (I.wish _) hw) (fun _ _ q => q.unwish) fun _ _ z => False.elim z
end
section
variable {X : Cx} {st : Stmt} {rest : List Stmt} {t u : TS} {e : Expr} {te : TE} {pos : Pos}
noncomputable def tNext : TS := fun D σ H => D.nx σ H
noncomputable def tSeq (t u : TS) : TS := fun D σ H => t { D with nx := u D } σ H
theorem pss_nil : PSs X [] tNext := fun _ _ σ H _ I h => wpAny_execs_nil ⟨σ, H, I, h⟩
theorem pss_cons (h1 : PS X st t) (h2 : PSs X rest u) : PSs X (st :: rest) (tSeq t u) := by
  intro pins s σ H D I h
  refine wpAny_execs_cons (thn (h1 pins s σ H { D with nx := u D } I h) fun f s1 q => ?_)
  cases f with
  | next =>
    obtain ⟨σ', H', I', q⟩ := q
    exact h2 pins s1 σ' H' D I' q
  | ret v => exact q
  | brk => exact q
  | cont => exact q
theorem pss_one (h1 : PS X st t) : PSs X [st] t := by
  intro pins s σ H D I h
  refine wpAny_execs_cons (thn (h1 pins s σ H D I h) fun f s1 q => ?_)
  cases f with
  | next => exact wpAny_execs_nil q
  | ret v => exact q
  | brk => exact q
  | cont => exact q
theorem Inv.quiet {pins : List (Addr × Obj)} {σ : St} {H : Hp} {s : Shared} (I : Inv X pins σ H s) : interactive X.env = false := by simp [interactive, I.ok.kind]
noncomputable def tDrop (te : TE) : TS := fun D σ H => te σ H fun _ H1 => D.nx σ H1
theorem ps_expr (he : PE X e te) (hs : swapsWith e none pos.line X.env = pure false := by rfl) : PS X (.Expr e pos) (tDrop te) := by
  intro pins s σ H D I h
  exact wpAny_Expr_any (thn (he pins s σ H _ I h) fun v s1 ⟨x, H1, I1, r1, q1⟩ => ⟨σ, H1, I1, q1⟩) I.quiet hs
noncomputable def tRet (te : TE) : TS := fun D σ H => te σ H D.rt
theorem ps_ret (he : PE X e te) : PS X (.Return (some e) pos) (tRet te) := by
  intro pins s σ H D I h
  exact wpAny_Return_some (thn (he pins s σ H _ I h) fun v s1 ⟨x, H1, I1, r1, q1⟩ => ⟨x, σ, H1, I1, r1, q1⟩)
noncomputable def tIfS (c : TT) (t u : TS) : TS := fun D σ H => c σ H fun b H1 => if b = true then t D σ H1 else u D σ H1
theorem ps_if {c : Expr} {a b : List Stmt} {tc : TT} (hc : PT X c tc) (ha : PSs X a t) (hb : PSs X b u) : PS X (.If c a b pos) (tIfS tc t u) := by
  intro pins s σ H D I h
  refine wpAny_If (thn (hc pins s σ H _ I h) fun d s1 ⟨H1, I1, q1⟩ => ?_)
  cases d with
  | true => exact ha pins s1 σ H1 D I1 q1
  | false => exact hb pins s1 σ H1 D I1 q1
end
noncomputable abbrev TG := V -> St -> Hp -> (St -> Hp -> Prop) -> Prop
noncomputable abbrev TGs := List V -> St -> Hp -> (St -> Hp -> Prop) -> Prop
noncomputable def PG (X : Cx) (target : Expr) (t : TG) : Prop :=
  ∀ (pins : List (Addr × Obj)) (s : Shared) (σ : St) (H : Hp) (v : V) (u : Value) (Q : St -> Hp -> Prop), Inv X pins σ H s -> RelV v u -> t v σ H Q ->
    wpAny (model X.prog X.w) X.A (assign target X.env u) (fun _ s' => ∃ σ' H', Inv X pins σ' H' s' /\ Q σ' H') X.xe s
noncomputable def PGs (X : Cx) (ts : List Expr) (t : TGs) : Prop :=
  ∀ (pins : List (Addr × Obj)) (s : Shared) (σ : St) (H : Hp) (vs : List V) (us : List Value) (Q : St -> Hp -> Prop), Inv X pins σ H s -> Vals vs us -> t vs σ H Q ->
    wpAny (model X.prog X.w) X.A (assignInOrder ((assignEach ts X.env).map (·.2)) us) (fun _ s' => ∃ σ' H', Inv X pins σ' H' s' /\ Q σ' H') X.xe s
noncomputable abbrev TSet := V -> V -> V -> Hp -> (Hp -> Prop) -> Prop
noncomputable def PSet (X : Cx) (t : TSet) : Prop :=
  ∀ (pins : List (Addr × Obj)) (s : Shared) (σ : St) (H : Hp) (o i v : V) (ov iv u : Value) (Q : Hp -> Prop), Inv X pins σ H s -> RelV o ov -> RelV i iv -> RelV v u -> t o i v H Q ->
    wpAny (model X.prog X.w) X.A (setItem ov iv u) (fun _ s' => ∃ H', Inv X pins σ H' s' /\ Q H') X.xe s
section
variable {X : Cx} {pos : Pos}
noncomputable def gName (i : Nat) : TG := fun v σ H Q => Q (σ.set i (some v)) H
theorem pg_name {i : Nat} {x : Str} (hN : X.N.Nodup) (hi : X.N[i]? = some x) (hx : Loc X.env.scope x) (hf : X.fn x = true \/ X.env.scope.names.lookup x = some .local := by first | exact .inl rfl | exact .inr rfl | assumption) : PG X (.Name x pos) (gName i) := by
  intro pins s σ H v u Q I r h
  exact wpAny_assign_Name (store_ok I hN hi hx r (fun s' I' => ⟨_, H, I', h⟩) hf)
noncomputable def gNil : TGs := fun vs σ H Q => vs = [] /\ Q σ H
noncomputable def gCons (t : TG) (u : TGs) : TGs := fun vs σ H Q => ∃ v r, vs = v :: r /\ t v σ H fun σ' H' => u r σ' H' Q
theorem pgs_nil : PGs X [] gNil := by
  intro pins s σ H vs us Q I r h
  obtain ⟨e, h⟩ := h
  subst e
  cases r
  exact assignInOrder_nil ⟨σ, H, I, h⟩
theorem pgs_cons {e : Expr} {es : List Expr} {t : TG} {u : TGs} (h1 : PG X e t) (h2 : PGs X es u)
    (hs : (assignEach (e :: es) X.env).map (·.2) = assign e X.env :: (assignEach es X.env).map (·.2) := by rfl) : PGs X (e :: es) (gCons t u) := by
  intro pins s σ H vs us Q I r h
  obtain ⟨v, vr, e1, h⟩ := h
  subst e1
  cases r with
  | cons r rr =>
    rw [hs]
    refine assignInOrder_cons (thn (h1 pins s σ H _ _ _ I r h) fun _ s1 ⟨σ1, H1, I1, q1⟩ => ?_)
    exact h2 pins s1 σ1 H1 _ _ Q I1 rr q1
noncomputable def gTup (K : PySem.W.Frag) (n : Nat) (t : TGs) : TG := fun v σ H Q => ∃ a xs, v = .ref a /\ SqT K H a xs /\ xs.length = n /\ t xs σ H Q
theorem pg_tup {es : List Expr} {k : Nat} {t : TGs} {n : Nat} (hc : X.calm = true) (h : PGs X es t)
    (hn : (assignEach es X.env).length = n := by rfl) (hst : (assignEach es X.env).findIdx? (·.1) = none := by rfl) : PG X (.Tuple es k pos) (gTup X.K n t) := by
  intro pins s σ H v u Q I r hw
  obtain ⟨a, xs, e1, hq, hl, hw⟩ := hw
  subst e1
  cases r
  obtain ⟨its, rv, ht, hz⟩ := I.tuple hq
  refine assign_Tuple_tuple (I.ok.hd hc) ht (by simp [hn, <- hl, rv.length]) hst fun h' hx => ?_
  have I1 : Inv X pins σ H { s with heap := h' } := I.kept (t' := s.toks) fun b o e => hx b o (Nat.ne_of_lt (Heap.lt_size e)) e
  exact h pins _ σ H xs _ Q I1 (by simpa using rv) hw
noncomputable def gSub (to ti : TE) (t : TSet) : TG := fun v σ H Q => to σ H fun o H1 => ti σ H1 fun i H2 => t o i v H2 fun H3 => Q σ H3
theorem pg_sub {o i : Expr} {to ti : TE} {t : TSet} (ho : PE X o to) (hi : PE X i ti) (hs : PSet X t)
    (ha : ∀ v, assign (.Subscript o i pos) X.env v = (do
      let ov <- holding [v] (eval o X.env)
      let iv <- holding [v, ov] (eval i X.env)
      standAt pos
      holding [v, ov, iv] (setItem ov iv v)
      release [v, ov, iv] []) := by intro _; rfl) : PG X (.Subscript o i pos) (gSub to ti t) := by
  intro pins s σ H v u Q I r h
  rw [ha]
  refine wpAny_bind (wpAny_holding (thn (ho pins s σ H _ I h) fun ov s1 ⟨x, H1, I1, r1, q1⟩ => ?_))
  refine wpAny_bind (wpAny_holding (thn (hi pins s1 σ H1 _ I1 q1) fun iv s2 ⟨y, H2, I2, r2, q2⟩ => ?_))
  refine wpAny_bind (wpAny_standAt (wpAny_bind (wpAny_holding (thn (hs pins s2 σ H2 x y v ov iv u _ I2 r1 r2 r q2) fun _ s3 ⟨H3, I3, q3⟩ => ?_))))
  exact wpAny_release ⟨σ, H3, I3, q3⟩
noncomputable def tAsg (te : TE) (g : TG) : TS := fun D σ H => te σ H fun x H1 => g x σ H1 D.nx
theorem ps_asg {tg e : Expr} {te : TE} {g : TG} (he : PE X e te) (hg : PG X tg g) (hs : swapsWithSole [tg] e pos.line X.env = pure false := by rfl) (hw : swappedStores [tg] e X.env = pure none := by rfl)
    (h1 : (assignEach [tg] X.env).map (·.2) = [assign tg X.env] := by rfl) : PS X (.Assign [tg] e pos) (tAsg te g) := by
  intro pins s σ H D I h
  refine wpAny_Assign_stores (thn (he pins s σ H _ I h) fun v s1 ⟨x, H1, I1, r1, q1⟩ => ?_) hs hw
  rw [h1]
  exact thn (hg pins s1 σ H1 x v _ I1 r1 q1) fun _ s2 q => q
theorem ps_set {i : Nat} {x : Str} {e : Expr} {te : TE} {pos' : Pos} (hN : X.N.Nodup) (hi : X.N[i]? = some x) (hx : Loc X.env.scope x) (he : PE X e te) (hs : swapsWith e (some (.Name x pos')) pos.line X.env = pure false := by rfl) (hf : X.fn x = true \/ X.env.scope.names.lookup x = some .local := by first | exact .inl rfl | exact .inr rfl | assumption) :
    PS X (.Assign [.Name x pos'] e pos) (tAsg te (gName i)) := by
  intro pins s σ H D I h
  refine wpAny_Assign_Name (thn (he pins s σ H _ I h) fun v s1 ⟨y, H1, I1, r1, q1⟩ => ?_) hs
  exact store_ok I1 hN hi hx r1 (fun s2 I2 => ⟨_, H1, I2, q1⟩) hf
noncomputable def tPar (i j : Nat) (ta : TA) : TS := fun D σ H => ta σ H fun vs H1 => ∃ v w, vs = [v, w] /\ D.nx ((σ.set i (some v)).set j (some w)) H1
theorem ps_par {i j : Nat} {x y : Str} {a b : Expr} {ta : TA} {px py pt : Pos} {kt k2 pt2} (hc : X.calm = true) (hN : X.N.Nodup) (hi : X.N[i]? = some x) (hj : X.N[j]? = some y) (hij : i ≠ j)
    (hx : X.env.scope.names.lookup x = some .local) (hy : X.env.scope.names.lookup y = some .local) (ha : PA X [a, b] ta)
    (hw : swappedStores [.Tuple [.Name x px, .Name y py] kt pt] (.Tuple [a, b] k2 pt2) X.env = pure (some [x, y]))
    (hs : swapsWithSole [.Tuple [.Name x px, .Name y py] kt pt] (.Tuple [a, b] k2 pt2) pos.line X.env = pure false := by rfl) :
    PS X (.Assign [.Tuple [.Name x px, .Name y py] kt pt] (.Tuple [a, b] k2 pt2) pos) (tPar i j ta) := by
  intro pins s σ H D I h
  rw [exec_Assign_arm]
  refine wpAny_bind (wpAny_standAt ?_)
  rw [hs]
  refine wpAny_bind (wpAny_pure ?_)
  rw [if_neg (by decide)]
  refine wpAny_bind (Tuple_ (thn (ha _ pins s σ H _ I h) fun us s1 ⟨vs, H1, I1, r1, q1⟩ => ?_))
  obtain ⟨v, w, e1, q1⟩ := q1
  subst e1
  obtain ⟨u1, u2, rfl, rv, rw'⟩ : ∃ u1 u2, us = [u1, u2] /\ RelV v u1 /\ RelV w u2 := by
    cases r1 with
    | cons p q =>
      cases q with
      | cons p' q' =>
        cases q'
        exact ⟨_, _, rfl, p, p'⟩
  refine wpAny_newObj_type ?_ (by show 2 <= sizeLine; decide)
  have I2 : Inv X pins σ H1 { s1 with heap := s1.heap.push { cls := .type "tuple", data := .seq [u1, u2].toArray } } := I1.kept (t' := s1.toks) fun b o e => Heap.get?_push_of_some _ e
  rw [hw]
  refine wpAny_bind (wpAny_pure ?_)
  show wpAny (model X.prog X.w) X.A (do rule "assign.swapped-stores"; let items <- unpackItems (.ref s1.heap.objs.size) 2 none; assignInOrder [fun v => bindName X.env y v, fun v => bindName X.env x v] items.reverse; pure Flow.next) _ _ _
  refine wpAny_bind (wpAny_rule (wpAny_bind (unpackItems_tuple (items := #[u1, u2]) (I.ok.hd hc) (IsTup.new s1.heap _) fun h' hx' => ?_)))
  have I3 := I2.kept (h' := h') (t' := s1.toks) fun b o e => hx' b o (Nat.ne_of_lt (Heap.lt_size e)) e
  show wpAny _ _ (assignInOrder [fun v => bindName X.env y v, fun v => bindName X.env x v] [u2, u1] >>= fun _ => pure Flow.next) _ _ _
  refine wpAny_bind (assignInOrder_cons (wpAny_bindName (store_ok I3 hN hj (.inl hy) rw' (fun s2 I4 => ?_) (.inr hy))))
  refine assignInOrder_cons (wpAny_bindName (store_ok I4 hN hi (.inl hx) rv (fun s3 I5 => assignInOrder_nil (wpAny_pure ?_)) (.inr hx)))
  rw [List.set_comm _ _ (Ne.symm hij)] at I5
  exact ⟨_, H1, I5, q1⟩
end
section
variable {X : Cx} {pos : Pos}
noncomputable def tWhile (c : TT) (tb : TS) : TS := fun D σ H => ∃ W : Nat -> St -> Hp -> Prop, (∃ m, W m σ H) /\ ∀ m σ H, W m σ H ->
  c σ H fun b H1 => if b = true then ∃ N : St -> Hp -> Prop, (∀ σ' H', N σ' H' -> ∃ m', m' < m /\ W m' σ' H') /\ tb { D with nx := N, ct := N, bk := D.nx } σ H1 else D.nx σ H1
theorem ps_while {c : Expr} {body : List Stmt} {tc : TT} {tb : TS} (hp : PassesOwn (model X.prog X.w) X.A X.env X.xe) (hc : PT X c tc) (hb : PSs X body tb) : PS X (.While c body [] pos) (tWhile tc tb) := by
  intro pins s σ H D I h
  obtain ⟨W, ⟨m0, w0⟩, turn⟩ := h
  refine wpAny_While (codeAny_whileLoop (fun n s' => ∃ σ' H', Inv X pins σ' H' s' /\ W n σ' H') ?_ m0 ⟨σ, H, I, w0⟩)
  rintro n s1 ⟨σ1, H1, I1, w1⟩
  refine wpAny_passesOwn hp (thn (hc pins s1 σ1 H1 _ I1 (turn n σ1 H1 w1)) fun b s2 ⟨H2, I2, q2⟩ => ?_)
  cases b with
  | true =>
    obtain ⟨N, hN, q2⟩ := q2
    rw [if_pos rfl]
    refine wpAny_passesOwn hp (thn (hb pins s2 σ1 H2 _ I2 q2) fun f s3 q3 => ?_)
    cases f with
    | next =>
      obtain ⟨σ3, H3, I3, n3⟩ := q3
      obtain ⟨m', hm, w3⟩ := hN σ3 H3 n3
      exact ⟨m', hm, σ3, H3, I3, w3⟩
    | cont =>
      obtain ⟨σ3, H3, I3, n3⟩ := q3
      obtain ⟨m', hm, w3⟩ := hN σ3 H3 n3
      exact ⟨m', hm, σ3, H3, I3, w3⟩
    | brk => exact q3
    | ret v => exact q3
  | false =>
    rw [if_neg Bool.false_ne_true]
    exact wpAny_execs_nil ⟨σ1, H2, I2, q2⟩
end
structure It where
  go : Nat -> Hp -> Prop
  yld : Nat -> Hp -> V -> Hp -> Prop
  stop : Nat -> Hp -> Prop
noncomputable def FpOk (X : Cx) (pins : List (Addr × Obj)) (H : Hp) (b : Addr) : Prop :=
  H b = none /\ b ≠ X.env.locals /\ b ∉ X.fs /\ (b ∈ X.ex \/ X.s₀.heap.objs.size <= b) /\ (∀ x c, X.env.cells.lookup x = some c -> c ≠ b) /\ ∀ p ∈ X.pn ++ pins, p.1 ≠ b
theorem Inv.fpOk {X : Cx} {pins : List (Addr × Obj)} {σ : St} {H H' : Hp} {s : Shared} {b : Addr} (I : Inv X pins σ H s) (hb : s.heap.objs.size <= b) (hn : H' b = none) : FpOk X pins H' b := by
  refine ⟨hn, Nat.ne_of_gt (Nat.lt_of_lt_of_le I.lt hb), I.nofs hb, .inr (Nat.le_trans I.sz hb), fun x c e z => ?_, fun p hp z => ?_⟩
  . obtain ⟨v, q⟩ := I.cell x c e
    exact absurd (Nat.lt_of_lt_of_le q.lt (by rw [z]; exact hb)) (Nat.lt_irrefl _)
  . exact absurd (Nat.lt_of_lt_of_le (Heap.lt_size (I.pin p hp).1) (by rw [z]; exact hb)) (Nat.lt_irrefl _)
structure Turn (P : Program) (w : World) (K : PySem.W.Frag) (tg : Expr) (J : It) (fp : List Addr) (it : Addr) (tn : Nat -> Heap -> Prop) : Prop where
  mem : it ∈ fp
  obj : ∀ i h, tn i h -> ∀ b ∈ fp, ∃ o, h.get? b = some o /\ ∀ v, o.data ≠ .cell v
  keep : ∀ i h h', tn i h -> (∀ b ∈ fp, ∀ o, h.get? b = some o -> h'.get? b = some o) -> tn i h'
  item : ∀ (X : Cx), X.prog = P -> X.w = w -> X.K = K -> X.calm = true -> ∀ (i : Nat) (pins : List (Addr × Obj)) (s : Shared) (σ : St) (H : Hp) (E : Value -> Shared -> Prop), Inv X pins σ H s -> (∀ b ∈ fp, FpOk X pins H b) -> tn i s.heap -> J.go i H ->
    wpAny (model P w) X.A (pyNext (.ref it)) (fun r s1 => ∃ u, r = some u /\
      wpAny (model P w) X.A (letOwnedTupleGo tg (.ref it) u) (fun _ s2 => ∃ x H', Inv X pins σ H' s2 /\ RelV x u /\ J.yld i H x H' /\ tn (i + 1) s2.heap /\ ∀ b ∈ fp, H' b = none) E s1) E s
  done : ∀ (X : Cx), X.prog = P -> X.w = w -> X.K = K -> X.calm = true -> ∀ (i : Nat) (pins : List (Addr × Obj)) (s : Shared) (σ : St) (H : Hp) (E : Value -> Shared -> Prop), Inv X pins σ H s -> (∀ b ∈ fp, FpOk X pins H b) -> tn i s.heap -> J.stop i H ->
    wpAny (model P w) X.A (pyNext (.ref it)) (fun r s1 => r = none /\ Inv X pins σ H s1) E s
  self : ∀ (A : Around) (i : Nat) (s : Shared) (Q : Value -> Shared -> Prop) (E : Value -> Shared -> Prop), tn i s.heap -> Q (.ref it) s -> wpAny (model P w) A (pyIter (.ref it)) Q E s
noncomputable abbrev TI := St -> Hp -> (It -> Hp -> Prop) -> Prop
noncomputable def PIE (X : Cx) (pins : List (Addr × Obj)) (σ : St) (tg : Expr) (R : It -> Hp -> Prop) (itv : Value) (s2 : Shared) : Prop :=
  ∃ (it : Addr) (fp : List Addr) (tn : Nat -> Heap -> Prop) (J : It) (H' : Hp), itv = .ref it /\ Inv X pins σ H' s2 /\ Turn X.prog X.w X.K tg J fp it tn /\ tn 0 s2.heap /\ (∀ b ∈ fp, FpOk X pins H' b) /\ R J H'
noncomputable def PI (X : Cx) (tg iter : Expr) (wi : TI) : Prop :=
  ∀ (pins : List (Addr × Obj)) (s : Shared) (σ : St) (H : Hp) (R : It -> Hp -> Prop), Inv X pins σ H s -> wi σ H R ->
    wpAny (model X.prog X.w) X.A (eval iter X.env) (fun v s1 => wpAny (model X.prog X.w) X.A (pyIter v) (PIE X pins σ tg R) X.xe s1) X.xe s
theorem go_of {M : Model} {A : Around} {E : Value -> Shared -> Prop} {s : Shared} {tg : Expr} {it : Addr} {u : Value} {o : Obj} {n : String} {vs : Array Value} {Q : Unit -> Shared -> Prop} (ho : s.heap.get? it = some o) (hc : o.cls = .type n) (hd : o.data = .fields vs)
    (hn : ["enumerate", "zip", "dict_itemiterator", "dict_reverseitemiterator", "odict_iterator", "itertools.zip_longest", "itertools.pairwise"].contains n = false) (hQ : Q () s) : wpAny M A (letOwnedTupleGo tg (.ref it) u) Q E s := by
  unfold letOwnedTupleGo
  cases tg <;> first
    | exact wpAny_pure hQ
    | (cases u <;> first
        | exact wpAny_pure hQ
        | (refine wpAny_bind (wpAny_load ho ?_)
           rw [hc, hd]
           show wpAny M A (if (["enumerate", "zip", "dict_itemiterator", "dict_reverseitemiterator", "odict_iterator", "itertools.zip_longest", "itertools.pairwise"].contains n && vs[0]? == some (rawInt _)) = true then _ else _) Q E s
           rw [if_neg (by intro h; rw [hn, Bool.false_and] at h; cases h)]
           exact wpAny_pure hQ))
noncomputable def Itl (K : PySem.W.Frag) (a : Addr) : It :=
  ⟨fun i H => ∃ xs x, SqL K H a xs /\ xs[i]? = some x, fun i H x H' => H' = H /\ ∀ xs, SqL K H a xs -> xs[i]? = some x, fun i H => ∃ xs, SqL K H a xs /\ xs.length <= i⟩
noncomputable def Itt (K : PySem.W.Frag) (a : Addr) : It :=
  ⟨fun i H => ∃ xs x, SqT K H a xs /\ xs[i]? = some x, fun i H x H' => H' = H /\ ∀ xs, SqT K H a xs -> xs[i]? = some x, fun i H => ∃ xs, SqT K H a xs /\ xs.length <= i⟩
noncomputable def Itr (lo : Int) (n : Nat) : It := ⟨fun i _ => i < n, fun i H x H' => H' = H /\ x = .int (lo + i), fun i _ => n <= i⟩
theorem turn_list {P : Program} {w : World} {K : PySem.W.Frag} {tg : Expr} (a it : Addr) : Turn P w K tg (Itl K a) [it] it (fun i h => h.IsListIter it a i) where
  mem := by simp
  obj := fun i h st b hb => by
    have e : b = it := by simpa using hb
    subst e
    obtain ⟨o, e, c, d⟩ := st
    exact ⟨o, e, fun v z => by rw [d] at z; cases z⟩
  keep := fun i h h' st k => st.at fun o e => k it (by simp) o e
  item := by
    intro X hP hw hK hc i pins s σ H E I hf st hg
    subst hP hw hK
    obtain ⟨xs, x, hq, hx⟩ := hg
    obtain ⟨its, rv, p, hz⟩ := I.list hq
    obtain ⟨u, hu, ru⟩ := rv.get hx
    obtain ⟨f0, f1, f2, f3, f4, f5⟩ := hf it (by simp)
    refine wpAny_pyNext_list_item st p.isList (x := u) (by simpa using hu) fun h' st' sb => ?_
    have I1 : Inv X pins σ H { s with heap := h' } := I.turned (t' := s.toks) (fun b o hb e => (sb.2 b hb).trans e) f0 f1 f3 f4 f5
    obtain ⟨o, e, c, d⟩ := id st'
    exact ⟨u, rfl, go_of (s := { s with heap := h' }) e c d (by decide) ⟨x, H, I1, ru, ⟨rfl, fun ys hy => by rw [I.list_inj hy hq]; exact hx⟩, st', fun b hb => (hf b hb).1⟩⟩
  done := by
    intro X hP hw hK hc i pins s σ H E I hf st hg
    subst hP hw hK
    obtain ⟨xs, hq, hx⟩ := hg
    obtain ⟨its, rv, p, hz⟩ := I.list hq
    obtain ⟨f0, f1, f2, f3, f4, f5⟩ := hf it (by simp)
    have hl := rv.length
    exact wpAny_pyNext_list_end (I.ok.hd hc) st p.isList (by simp; omega) fun h' eb => ⟨rfl, I.turned (t' := s.toks) (fun b o hb e => eb b o hb e) f0 f1 f3 f4 f5⟩
  self := fun _ _ _ _ _ st h => wpAny_pyIter_listiter st h
theorem turn_tuple {P : Program} {w : World} {K : PySem.W.Frag} {tg : Expr} (a it : Addr) : Turn P w K tg (Itt K a) [it] it (fun i h => h.IsTupleIter it a i) where
  mem := by simp
  obj := fun i h st b hb => by
    have e : b = it := by simpa using hb
    subst e
    obtain ⟨o, e, c, d⟩ := st
    exact ⟨o, e, fun v z => by rw [d] at z; cases z⟩
  keep := fun i h h' st k => st.at fun o e => k it (by simp) o e
  item := by
    intro X hP hw hK hc i pins s σ H E I hf st hg
    subst hP hw hK
    obtain ⟨xs, x, hq, hx⟩ := hg
    obtain ⟨its, rv, p, hz⟩ := I.tuple hq
    obtain ⟨u, hu, ru⟩ := rv.get hx
    obtain ⟨f0, f1, f2, f3, f4, f5⟩ := hf it (by simp)
    refine wpAny_pyNext_tuple_item st (show s.heap.IsTuple a its.toArray from p) (x := u) (by simpa using hu) fun h' st' sb => ?_
    have I1 : Inv X pins σ H { s with heap := h' } := I.turned (t' := s.toks) (fun b o hb e => (sb.2 b hb).trans e) f0 f1 f3 f4 f5
    obtain ⟨o, e, c, d⟩ := id st'
    exact ⟨u, rfl, go_of (s := { s with heap := h' }) e c d (by decide) ⟨x, H, I1, ru, ⟨rfl, fun ys hy => by rw [I.tuple_inj hy hq]; exact hx⟩, st', fun b hb => (hf b hb).1⟩⟩
  done := by
    intro X hP hw hK hc i pins s σ H E I hf st hg
    subst hP hw hK
    obtain ⟨xs, hq, hx⟩ := hg
    obtain ⟨its, rv, p, hz⟩ := I.tuple hq
    obtain ⟨f0, f1, f2, f3, f4, f5⟩ := hf it (by simp)
    have hl := rv.length
    exact wpAny_pyNext_tuple_end (I.ok.hd hc) st (show s.heap.IsTuple a its.toArray from p) (by simp; omega) fun h' eb => ⟨rfl, I.turned (t' := s.toks) (fun b o hb e => eb b o hb e) f0 f1 f3 f4 f5⟩
  self := fun _ _ _ _ _ st h => wpAny_pyIter_tupleiter st h
theorem turn_range {P : Program} {w : World} {K : PySem.W.Frag} {tg : Expr} (it : Addr) (lo : Int) (n : Nat) : Turn P w K tg (Itr lo n) [it] it (fun i h => IsRangeIter h it (lo + (i : Nat) * 1) ((n : Int) - (i : Nat)) 1) where
  mem := by simp
  obj := fun i h st b hb => by
    have e : b = it := by simpa using hb
    subst e
    exact ⟨_, st, fun v z => by
      have z' : Data.fields _ = Data.cell v := z
      cases z'⟩
  keep := fun i h h' st k => k it (by simp) _ st
  item := by
    intro X hP hw hK hc i pins s σ H E I hf st hg
    subst hP hw hK
    obtain ⟨f0, f1, f2, f3, f4, f5⟩ := hf it (by simp)
    have W := Walks.range (prog := X.prog) (w := X.w) (I.ok.hd hc) it lo 1 n
    refine W.item i s _ _ hg st fun v h' tk hv st' kk => ?_
    obtain ⟨t, rfl⟩ := hv
    have I1 : Inv X pins σ H { s with heap := h', toks := tk } := I.turned (fun b o hb e => kk b o (by simpa using hb) e) f0 f1 f3 f4 f5
    refine ⟨_, rfl, go_of (s := { s with heap := h', toks := tk }) (n := "range_iterator") st' rfl rfl (by decide) ⟨.int (lo + i), H, I1, ⟨t, ?_⟩, ⟨rfl, rfl⟩, st', fun b hb => (hf b hb).1⟩⟩
    rw [Int.mul_one]
  done := by
    intro X hP hw hK hc i pins s σ H E I hf st hg
    subst hP hw hK
    obtain ⟨f0, f1, f2, f3, f4, f5⟩ := hf it (by simp)
    exact wpAny_pyNext_range_end (I.ok.hd hc) st (by have : n <= i := hg; omega) fun h' eb => ⟨rfl, I.turned (t' := s.toks) (fun b o hb e => eb b o hb e) f0 f1 f3 f4 f5⟩
  self := fun _ _ _ _ _ st h => wpAny_pyIter_rangeiter st h
end L2
namespace L2
open PySem PySem.Spec PyProof.Rows
section
variable {X : Cx} {tg : Expr}
noncomputable def iList (K : PySem.W.Frag) (tl : TE) : TI := fun σ H R => tl σ H fun x H1 => ∃ a, x = .ref a /\ (∃ xs, SqL K H1 a xs) /\ R (Itl K a) H1
noncomputable def iTup (K : PySem.W.Frag) (tl : TE) : TI := fun σ H R => tl σ H fun x H1 => ∃ a, x = .ref a /\ (∃ xs, SqT K H1 a xs) /\ R (Itt K a) H1
theorem pi_list {l : Expr} {tl : TE} (hl : PE X l tl) : PI X tg l (iList X.K tl) := by
  intro pins s σ H R I h
  refine thn (hl pins s σ H _ I h) fun v s1 ⟨x, H1, I1, r1, q1⟩ => ?_
  obtain ⟨a, e, ⟨xs, hq⟩, q⟩ := q1
  subst e
  cases r1
  obtain ⟨its, rv, p, hz⟩ := I1.list hq
  refine wpAny_pyIter_list p.isList ?_
  refine ⟨s1.heap.objs.size, [s1.heap.objs.size], _, _, H1, rfl, I1.kept (t' := s1.toks) fun b o e => Heap.get?_push_of_some _ e, turn_list a _, ⟨_, Heap.get?_push_size _ rfl, rfl, rfl⟩, fun b hb => ?_, q⟩
  have e : b = s1.heap.objs.size := by simpa using hb
  subst e
  exact I1.fpOk (Nat.le_refl _) (I1.hok.fresh (Nat.le_refl _))
theorem pi_tup {l : Expr} {tl : TE} (hl : PE X l tl) : PI X tg l (iTup X.K tl) := by
  intro pins s σ H R I h
  refine thn (hl pins s σ H _ I h) fun v s1 ⟨x, H1, I1, r1, q1⟩ => ?_
  obtain ⟨a, e, ⟨xs, hq⟩, q⟩ := q1
  subst e
  cases r1
  obtain ⟨its, rv, p, hz⟩ := I1.tuple hq
  refine wpAny_pyIter_tuple (show s1.heap.IsTuple a its.toArray from p) ?_
  refine ⟨s1.heap.objs.size, [s1.heap.objs.size], _, _, H1, rfl, I1.kept (t' := s1.toks) fun b o e => Heap.get?_push_of_some _ e, turn_tuple a _, ⟨_, Heap.get?_push_size _ rfl, rfl, rfl⟩, fun b hb => ?_, q⟩
  have e : b = s1.heap.objs.size := by simpa using hb
  subst e
  exact I1.fpOk (Nat.le_refl _) (I1.hok.fresh (Nat.le_refl _))
theorem range_it {pins : List (Addr × Obj)} {σ : St} {H : Hp} {s : Shared} {R : It -> Hp -> Prop} {E : Value -> Shared -> Prop} {lo hi : Int} {t u v : Tok} {tk : Nat} (I : Inv X pins σ H s) (h1 : -(2 ^ 62) <= lo) (h2 : lo < 2 ^ 62) (h3 : -(2 ^ 62) <= hi) (h4 : hi < 2 ^ 62)
    (q : R (Itr lo (hi - lo).toNat) H) : wpAny (model X.prog X.w) X.A (pyIter (.ref s.heap.objs.size)) (PIE X pins σ tg R) E { s with heap := s.heap.push { cls := .type "range", data := .fields #[.int lo t, .int hi u, .int 1 v] }, toks := tk } := by
  refine wpAny_pyIter_range (IsRange.new ..) (small_one h1 h2 h3 h4) ?_
  have I1 : Inv X pins σ H { s with heap := s.heap.push { cls := .type "range", data := .fields #[.int lo t, .int hi u, .int 1 v] }, toks := tk } := I.kept fun b o e => Heap.get?_push_of_some _ e
  refine ⟨(s.heap.push { cls := .type "range", data := .fields #[.int lo t, .int hi u, .int 1 v] }).objs.size, [(s.heap.push { cls := .type "range", data := .fields #[.int lo t, .int hi u, .int 1 v] }).objs.size], _, _, H, rfl,
    I1.kept (t' := tk) fun b o e => Heap.get?_push_of_some _ e, turn_range _ lo (hi - lo).toNat, ?_, fun b hb => ?_, q⟩
  . have e1 : lo + ((0 : Nat) : Int) * 1 = lo := by simp
    have e2 : (((hi - lo).toNat : Nat) : Int) - ((0 : Nat) : Int) = Builtin.Range.rangeSize lo hi 1 := by rw [rangeSize_one]; split <;> omega
    show IsRangeIter _ _ (lo + ((0 : Nat) : Int) * 1) ((((hi - lo).toNat : Nat) : Int) - ((0 : Nat) : Int)) 1
    rw [e1, e2]
    exact Heap.get?_push_size _ rfl
  . have e : b = (s.heap.push { cls := .type "range", data := .fields #[.int lo t, .int hi u, .int 1 v] }).objs.size := by simpa using hb
    subst e
    exact I1.fpOk (Nat.le_refl _) (I1.hok.fresh (Nat.le_refl _))
noncomputable def iRng1 (ta : TA) : TI := fun σ H R => ta σ H fun vs H1 => ∃ j : Int, vs = [.int j] /\ -(2 ^ 62) <= j /\ j < 2 ^ 62 /\ R (Itr 0 j.toNat) H1
theorem pi_range1 {a : Expr} {ta : TA} {p pos : Pos} (hg : Gl X "range") (hm : X.mg "range" = none) (ha : PA X [a] ta) (hs : starEach [a] X.env = [(false, eval a X.env)] := by rfl) : PI X tg (.Call (.Name "range" p) [a] [] pos) (iRng1 ta) := by
  intro pins s σ H R I h
  refine Call_ (ld_blt I hg hm boot_range (PyProof.Rows.callWith_type1 (thn (ha pos pins s σ H _ I h) fun us s1 ⟨vs, H1, I1, r1, q1⟩ => ?_) hs rfl))
  obtain ⟨j, e, q1, q2, q⟩ := q1
  subst e
  cases r1 with
  | cons r rr =>
    cases rr
    obtain ⟨t, rfl⟩ := r
    exact call_range_1 (range_it I1 (by omega) (by omega) q1 q2 (by simpa using q))
noncomputable def tFor (wi : TI) (g : TG) (tb : TS) : TS := fun D σ H => wi σ H fun J H1 => ∃ W : Nat -> Nat -> St -> Hp -> Prop, (∃ m, W 0 m σ H1) /\ ∀ i m σ H, W i m σ H ->
  (J.stop i H /\ D.nx σ H) \/ (J.go i H /\ ∃ N : St -> Hp -> Prop, (∀ σ' H', N σ' H' -> ∃ m', m' < m /\ W (i + 1) m' σ' H') /\ ∀ x H', J.yld i H x H' -> g x σ H' fun σ2 H2 => tb { D with nx := N, ct := N, bk := D.nx } σ2 H2)
noncomputable def pinsAt (fp : List Addr) (h : Heap) : List (Addr × Obj) := fp.filterMap fun b => (h.get? b).map fun o => (b, o)
theorem mem_pinsAt {fp : List Addr} {h : Heap} {b : Addr} {o : Obj} (hb : b ∈ fp) (e : h.get? b = some o) : (b, o) ∈ pinsAt fp h := List.mem_filterMap.mpr ⟨b, hb, by rw [e]; rfl⟩
theorem of_pinsAt {fp : List Addr} {h : Heap} {p : Addr × Obj} (hp : p ∈ pinsAt fp h) : p.1 ∈ fp /\ h.get? p.1 = some p.2 := by
  obtain ⟨b, hb, e⟩ := List.mem_filterMap.mp hp
  cases q : h.get? b with
  | none => rw [q] at e; cases e
  | some o =>
    rw [q] at e
    have e' : (b, o) = p := Option.some.inj e
    subst e'
    exact ⟨hb, q⟩
theorem Inv.pinned {pins : List (Addr × Obj)} {σ : St} {H : Hp} {s : Shared} {fp : List Addr} (I : Inv X pins σ H s) (hf : ∀ b ∈ fp, FpOk X pins H b) (ho : ∀ b ∈ fp, ∃ o, s.heap.get? b = some o /\ ∀ v, o.data ≠ .cell v) : Inv X (pins ++ pinsAt fp s.heap) σ H s :=
  I.pins_of fun p hp => (List.mem_append.mp hp).elim (fun z => I.pin p (List.mem_append_right _ z)) fun z => by
    obtain ⟨hb, e⟩ := of_pinsAt z
    obtain ⟨f0, f1, f2, _⟩ := hf p.1 hb
    obtain ⟨o, e', d⟩ := ho p.1 hb
    rw [e] at e'; cases e'
    exact ⟨e, f0, f1, f2, d⟩
theorem Inv.unpinned {pins pl : List (Addr × Obj)} {σ : St} {H : Hp} {s : Shared} (I : Inv X (pins ++ pl) σ H s) : Inv X pins σ H s := I.pins_of fun p hp => I.pin p (List.mem_append_right _ (List.mem_append_left _ hp))
theorem ps_for {iter : Expr} {body : List Stmt} {wi : TI} {g : TG} {tb : TS} {pos : Pos} (hp : PassesOwn (model X.prog X.w) X.A X.env X.xe) (hc : X.calm = true) (hi : PI X tg iter wi) (hg : PG X tg g) (hb : PSs X body tb)
    (hs : ∀ x, foldedSetIterable iter X.env x = pure x := by intro _; rfl) : PS X (.For tg iter body [] pos) (tFor wi g tb) := by
  intro pins s σ H D I h
  refine wpAny_For (thn (hi pins s σ H _ I h) fun v s1 h1 => thn h1 fun itv s2 h2 => ?_) hs
  obtain ⟨it, fp, tn, J, H2, e, I2, T, st2, f2, W, ⟨m0, w0⟩, turn⟩ := h2
  subst e
  have stat : ∀ {H' : Hp}, (∀ b ∈ fp, H' b = none) -> ∀ b ∈ fp, FpOk X pins H' b := fun hn b hb => ⟨hn b hb, (f2 b hb).2⟩
  refine codeAny_forLoop_any (fun n s' => ∃ i σ' H', Inv X pins σ' H' s' /\ tn i s'.heap /\ (∀ b ∈ fp, H' b = none) /\ W i n σ' H') ?_ m0 ⟨0, σ, H2, I2, st2, fun b hb => (f2 b hb).1, w0⟩
  rintro n s3 ⟨i, σ3, H3, I3, st3, fr3, w3⟩
  rcases turn i n σ3 H3 w3 with ⟨stop, qn⟩ | ⟨go, N, hN, step⟩
  . refine wpAny_passesOwn hp (thn (T.done X rfl rfl rfl hc i pins s3 σ3 H3 X.xe I3 (stat fr3) st3 stop) fun r s4 ⟨hr, I4⟩ => ?_)
    subst hr
    exact wpAny_execs_nil ⟨σ3, H3, I4, qn⟩
  . refine wpAny_passesOwn hp (thn (T.item X rfl rfl rfl hc i pins s3 σ3 H3 X.xe I3 (stat fr3) st3 go) fun r s4 ⟨u, hr, h4⟩ => ?_)
    subst hr
    refine wpAny_passesOwn hp (thn h4 fun _ s5 ⟨x, H5, I5, r5, y5, st5, fr5⟩ => ?_)
    have I5' := I5.pinned (stat fr5) (T.obj _ _ st5)
    refine wpAny_passesOwn hp (thn (hg _ s5 σ3 H5 x u _ I5' r5 (step x H5 y5)) fun _ s6 ⟨σ6, H6, I6, q6⟩ => ?_)
    refine wpAny_passesOwn hp (thn (hb _ s6 σ6 H6 _ I6 q6) fun f s7 q7 => ?_)
    have again : ∀ {σ7 : St} {H7 : Hp}, Inv X (pins ++ pinsAt fp s5.heap) σ7 H7 s7 -> N σ7 H7 -> ∃ m, m < n /\ ∃ i σ' H', Inv X pins σ' H' s7 /\ tn i s7.heap /\ (∀ b ∈ fp, H' b = none) /\ W i m σ' H' := fun {σ7 H7} I7 n7 => by
      obtain ⟨m', hm, w7⟩ := hN σ7 H7 n7
      refine ⟨m', hm, i + 1, σ7, H7, I7.unpinned, T.keep _ _ _ st5 fun b hb o e => (I7.pin (b, o) (List.mem_append_right _ (List.mem_append_right _ (mem_pinsAt hb e)))).1, fun b hb => ?_, w7⟩
      obtain ⟨o, e, d⟩ := T.obj _ _ st5 b hb
      exact (I7.pin (b, o) (List.mem_append_right _ (List.mem_append_right _ (mem_pinsAt hb e)))).2.1
    cases f with
    | next => obtain ⟨σ7, H7, I7, n7⟩ := q7; exact again I7 n7
    | cont => obtain ⟨σ7, H7, I7, n7⟩ := q7; exact again I7 n7
    | brk => obtain ⟨σ7, H7, I7, q7⟩ := q7; exact ⟨σ7, H7, I7.unpinned, q7⟩
    | ret v => obtain ⟨x7, σ7, H7, I7, r7, q7⟩ := q7; exact ⟨x7, σ7, H7, I7.unpinned, r7, q7⟩
end
theorem for_list {K : PySem.W.Frag} {a : Addr} {xs : List V} {g : TG} {tb : TS} {D : Ends} {σ : St} {H : Hp} (Pv : Nat -> St -> Hp -> Prop) (h0 : Pv 0 σ H) (hl : ∀ i σ H, i <= xs.length -> Pv i σ H -> SqL K H a xs)
    (hs : ∀ i x σ H, xs[i]? = some x -> Pv i σ H -> g x σ H fun σ2 H2 => tb { D with nx := Pv (i + 1), ct := Pv (i + 1), bk := D.nx } σ2 H2) (hd : ∀ σ H, Pv xs.length σ H -> D.nx σ H) :
    ∃ W : Nat -> Nat -> St -> Hp -> Prop, (∃ m, W 0 m σ H) /\ ∀ i m σ H, W i m σ H ->
      ((Itl K a).stop i H /\ D.nx σ H) \/ ((Itl K a).go i H /\ ∃ N : St -> Hp -> Prop, (∀ σ' H', N σ' H' -> ∃ m', m' < m /\ W (i + 1) m' σ' H') /\ ∀ x H', (Itl K a).yld i H x H' -> g x σ H' fun σ2 H2 => tb { D with nx := N, ct := N, bk := D.nx } σ2 H2) := by
  refine ⟨fun i m σ H => m = xs.length - i /\ i <= xs.length /\ Pv i σ H, ⟨xs.length, by simp, Nat.zero_le _, h0⟩, ?_⟩
  rintro i m σ H ⟨rfl, hi, p⟩
  have q := hl i σ H hi p
  by_cases hlt : i < xs.length
  . refine .inr ⟨⟨xs, xs[i], q, by simp [hlt]⟩, Pv (i + 1), fun σ' H' p' => ⟨xs.length - (i + 1), by omega, rfl, hlt, p'⟩, fun x H' y => ?_⟩
    obtain ⟨e, y⟩ := y
    subst e
    exact hs i x σ _ (y xs q) p
  . have e : i = xs.length := by omega
    subst e
    exact .inl ⟨⟨xs, q, Nat.le_refl _⟩, hd σ H p⟩
theorem for_tup {K : PySem.W.Frag} {a : Addr} {xs : List V} {g : TG} {tb : TS} {D : Ends} {σ : St} {H : Hp} (Pv : Nat -> St -> Hp -> Prop) (h0 : Pv 0 σ H) (hl : ∀ i σ H, i <= xs.length -> Pv i σ H -> SqT K H a xs)
    (hs : ∀ i x σ H, xs[i]? = some x -> Pv i σ H -> g x σ H fun σ2 H2 => tb { D with nx := Pv (i + 1), ct := Pv (i + 1), bk := D.nx } σ2 H2) (hd : ∀ σ H, Pv xs.length σ H -> D.nx σ H) :
    ∃ W : Nat -> Nat -> St -> Hp -> Prop, (∃ m, W 0 m σ H) /\ ∀ i m σ H, W i m σ H ->
      ((Itt K a).stop i H /\ D.nx σ H) \/ ((Itt K a).go i H /\ ∃ N : St -> Hp -> Prop, (∀ σ' H', N σ' H' -> ∃ m', m' < m /\ W (i + 1) m' σ' H') /\ ∀ x H', (Itt K a).yld i H x H' -> g x σ H' fun σ2 H2 => tb { D with nx := N, ct := N, bk := D.nx } σ2 H2) := by
  refine ⟨fun i m σ H => m = xs.length - i /\ i <= xs.length /\ Pv i σ H, ⟨xs.length, by simp, Nat.zero_le _, h0⟩, ?_⟩
  rintro i m σ H ⟨rfl, hi, p⟩
  have q := hl i σ H hi p
  by_cases hlt : i < xs.length
  . refine .inr ⟨⟨xs, xs[i], q, by simp [hlt]⟩, Pv (i + 1), fun σ' H' p' => ⟨xs.length - (i + 1), by omega, rfl, hlt, p'⟩, fun x H' y => ?_⟩
    obtain ⟨e, y⟩ := y
    subst e
    exact hs i x σ _ (y xs q) p
  . have e : i = xs.length := by omega
    subst e
    exact .inl ⟨⟨xs, q, Nat.le_refl _⟩, hd σ H p⟩
theorem for_range {lo : Int} {n : Nat} {g : TG} {tb : TS} {D : Ends} {σ : St} {H : Hp} (Pv : Nat -> St -> Hp -> Prop) (h0 : Pv 0 σ H)
    (hs : ∀ i σ H, i < n -> Pv i σ H -> g (.int (lo + i)) σ H fun σ2 H2 => tb { D with nx := Pv (i + 1), ct := Pv (i + 1), bk := D.nx } σ2 H2) (hd : ∀ σ H, Pv n σ H -> D.nx σ H) :
    ∃ W : Nat -> Nat -> St -> Hp -> Prop, (∃ m, W 0 m σ H) /\ ∀ i m σ H, W i m σ H ->
      ((Itr lo n).stop i H /\ D.nx σ H) \/ ((Itr lo n).go i H /\ ∃ N : St -> Hp -> Prop, (∀ σ' H', N σ' H' -> ∃ m', m' < m /\ W (i + 1) m' σ' H') /\ ∀ x H', (Itr lo n).yld i H x H' -> g x σ H' fun σ2 H2 => tb { D with nx := N, ct := N, bk := D.nx } σ2 H2) := by
  refine ⟨fun i m σ H => m = n - i /\ i <= n /\ Pv i σ H, ⟨n, by simp, Nat.zero_le _, h0⟩, ?_⟩
  rintro i m σ H ⟨rfl, hi, p⟩
  by_cases hlt : i < n
  . refine .inr ⟨hlt, Pv (i + 1), fun σ' H' p' => ⟨n - (i + 1), by omega, rfl, hlt, p'⟩, fun x H' y => ?_⟩
    obtain ⟨e, y⟩ := y
    subst e y
    exact hs i σ _ hlt p
  . have e : i = n := by omega
    subst e
    exact .inl ⟨Nat.le_refl _, hd σ H p⟩
theorem while_by {c : TT} {tb : TS} {D : Ends} {σ : St} {H : Hp} (Pv : St -> Hp -> Prop) (μ : St -> Hp -> Nat) (h0 : Pv σ H)
    (hs : ∀ σ H, Pv σ H -> c σ H fun b H1 => if b = true then tb { D with nx := fun σ' H' => Pv σ' H' /\ μ σ' H' < μ σ H, ct := fun σ' H' => Pv σ' H' /\ μ σ' H' < μ σ H, bk := D.nx } σ H1 else D.nx σ H1)
    (mono : ∀ σ H Q Q', (∀ b H1, Q b H1 -> Q' b H1) -> c σ H Q -> c σ H Q') : tWhile c tb D σ H := by
  refine ⟨fun m σ H => m = μ σ H /\ Pv σ H, ⟨_, rfl, h0⟩, ?_⟩
  rintro m σ H ⟨rfl, p⟩
  refine mono σ H _ _ (fun b H1 q => ?_) (hs σ H p)
  cases b with
  | true => exact ⟨_, fun σ' H' ⟨p', l⟩ => ⟨_, l, rfl, p'⟩, q⟩
  | false => exact q
end L2
namespace L2
open PySem PySem.Spec PyProof.Rows
noncomputable abbrev R2 := V -> V -> Hp -> VK -> Prop
noncomputable def OpR (X : Cx) (f : Value -> Value -> Sem Value) (r : R2) : Prop :=
  ∀ (pins : List (Addr × Obj)) (s : Shared) (σ : St) (H : Hp) (x y : V) (v u : Value) (Q : VK), Inv X pins σ H s -> RelV x v -> RelV y u -> r x y H Q ->
    wpAny (model X.prog X.w) X.A (f v u) (EP X pins σ Q) X.xe s
noncomputable def UnR (X : Cx) (f : Value -> Sem Value) (r : V -> Hp -> VK -> Prop) : Prop :=
  ∀ (pins : List (Addr × Obj)) (s : Shared) (σ : St) (H : Hp) (x : V) (v : Value) (Q : VK), Inv X pins σ H s -> RelV x v -> r x H Q ->
    wpAny (model X.prog X.w) X.A (f v) (EP X pins σ Q) X.xe s
noncomputable def CallR (X : Cx) (f : Value) (r : List V -> Hp -> VK -> Prop) : Prop :=
  ∀ (pins : List (Addr × Obj)) (s : Shared) (σ : St) (H : Hp) (xs : List V) (us : List Value) (Q : VK), Inv X pins σ H s -> Vals xs us -> r xs H Q ->
    wpAny (model X.prog X.w) X.A (call f us) (EP X pins σ Q) X.xe s
noncomputable def tOp (r : R2) (ta tb : TE) : TE := fun σ H Q => ta σ H fun x H1 => tb σ H1 fun y H2 => r x y H2 Q
noncomputable def tUn (r : V -> Hp -> VK -> Prop) (ta : TE) : TE := fun σ H Q => ta σ H fun x H1 => r x H1 Q
noncomputable def rI (C : Int -> Int -> Prop) (g : Int -> Int -> V) : R2 := fun x y H Q => ∃ i j, x = .int i /\ y = .int j /\ C i j /\ Q (g i j) H
noncomputable def rI0 (g : Int -> Int -> V) : R2 := fun x y H Q => ∃ i j, x = .int i /\ y = .int j /\ Q (g i j) H
noncomputable def rU (g : Int -> V) : V -> Hp -> VK -> Prop := fun x H Q => ∃ i, x = .int i /\ Q (g i) H
section
variable {X : Cx} {a b c : Expr} {ta tb tc : TE} {pos : Pos}
theorem binT (ha : PE X a ta) (hb : PE X b tb) {pins : List (Addr × Obj)} {s : Shared} {σ : St} {H : Hp} {R : V -> V -> Hp -> Prop} (I : Inv X pins σ H s)
    (h : ta σ H fun x H1 => tb σ H1 fun y H2 => R x y H2) {Q : Value -> Shared -> Prop} {f : Value -> Value -> Sem Value}
    (hf : ∀ v u s2 x y H2, Inv X pins σ H2 s2 -> RelV x v -> RelV y u -> R x y H2 -> wpAny (model X.prog X.w) X.A (f v u) Q X.xe s2) :
    wpAny (model X.prog X.w) X.A (eval a X.env) (fun v s₁ => wpAny (model X.prog X.w) X.A (eval b X.env) (fun u s₂ => wpAny (model X.prog X.w) X.A (f v u) Q X.xe s₂) X.xe s₁) X.xe s := by
  refine thn (ha pins s σ H _ I h) fun v s1 ⟨x, H1, I1, r1, q1⟩ => ?_
  refine thn (hb pins s1 σ H1 _ I1 q1) fun u s2 ⟨y, H2, I2, r2, q2⟩ => ?_
  exact hf v u s2 x y H2 I2 r1 r2 q2
theorem pe_op {op : Operator} {r : R2} (ho : OpR X (binaryOp op) r) (ha : PE X a ta) (hb : PE X b tb) : PE X (.BinOp a op b pos) (tOp r ta tb) := by
  intro pins s σ H Q I h
  exact wpAny_BinOp (binT ha hb I h fun v u s2 x y H2 I2 rx ry q => ho pins s2 σ H2 x y v u Q I2 rx ry q)
theorem pe_un {op : UnaryOp} {r : V -> Hp -> VK -> Prop} (ho : UnR X (unaryOp op) r) (ha : PE X a ta) : PE X (.UnaryOp op a pos) (tUn r ta) := by
  intro pins s σ H Q I h
  exact UnaryOp_ (thn (ha pins s σ H _ I h) fun v s1 ⟨x, H1, I1, r1, q1⟩ => ho pins s1 σ H1 x v Q I1 r1 q1)
theorem opI {f : Value -> Value -> Sem Value} {C : Int -> Int -> Prop} {g : Int -> Int -> Int}
    (rule : ∀ (i j : Int) (t u : Tok) (s : Shared) (Q : Value -> Shared -> Prop) (E : Value -> Shared -> Prop), C i j -> Q (.int (g i j) s.toks) { s with toks := s.toks + 1 } -> wpAny (model X.prog X.w) X.A (f (.int i t) (.int j u)) Q E s) :
    OpR X f (rI C fun i j => .int (g i j)) := by
  intro pins s σ H x y v u Q I rx ry h
  obtain ⟨i, j, rfl, rfl, hc, q⟩ := h
  obtain ⟨t, rfl⟩ := rx
  obtain ⟨t', rfl⟩ := ry
  exact rule i j t t' s _ _ hc ⟨.int (g i j), H, I.tok _, ⟨_, rfl⟩, q⟩
theorem opI0 {f : Value -> Value -> Sem Value} {g : Int -> Int -> Int}
    (rule : ∀ (i j : Int) (t u : Tok) (s : Shared) (Q : Value -> Shared -> Prop) (E : Value -> Shared -> Prop), Q (.int (g i j) s.toks) { s with toks := s.toks + 1 } -> wpAny (model X.prog X.w) X.A (f (.int i t) (.int j u)) Q E s) :
    OpR X f (rI0 fun i j => .int (g i j)) := by
  intro pins s σ H x y v u Q I rx ry h
  obtain ⟨i, j, rfl, rfl, q⟩ := h
  obtain ⟨t, rfl⟩ := rx
  obtain ⟨t', rfl⟩ := ry
  exact rule i j t t' s _ _ ⟨.int (g i j), H, I.tok _, ⟨_, rfl⟩, q⟩
theorem opB0 {f : Value -> Value -> Sem Value} {g : Int -> Int -> Bool}
    (rule : ∀ (i j : Int) (t u : Tok) (s : Shared) (Q : Value -> Shared -> Prop) (E : Value -> Shared -> Prop), Q (.bool (g i j)) s -> wpAny (model X.prog X.w) X.A (f (.int i t) (.int j u)) Q E s) :
    OpR X f (rI0 fun i j => .bl (g i j)) := by
  intro pins s σ H x y v u Q I rx ry h
  obtain ⟨i, j, rfl, rfl, q⟩ := h
  obtain ⟨t, rfl⟩ := rx
  obtain ⟨t', rfl⟩ := ry
  exact rule i j t t' s _ _ ⟨.bl (g i j), H, I, rfl, q⟩
noncomputable def CPow (i j : Int) : Prop := 0 <= j /\ j <= 1000000 /\ i.natAbs < 2 ^ 64
noncomputable def CMul (i j : Int) : Prop := (-(2 ^ 64) < i /\ i < 2 ^ 64) \/ (-(2 ^ 64) < j /\ j < 2 ^ 64)
theorem CMul.ok {i j : Int} (h : CMul i j) : IntMulOk i j := by
  rcases h with ⟨h1, h2⟩ | ⟨h1, h2⟩
  . exact .of_left (intBits_le_64 h1 h2)
  . exact .of_right (intBits_le_64 h1 h2)
theorem op_add : OpR X (binaryOp .Add) (rI0 fun i j => .int (i + j)) := opI0 fun _ _ _ _ _ _ _ q => add_int q
theorem op_sub : OpR X (binaryOp .Sub) (rI0 fun i j => .int (i - j)) := opI0 fun _ _ _ _ _ _ _ q => sub_int q
theorem op_mul : OpR X (binaryOp .Mult) (rI CMul fun i j => .int (i * j)) := opI fun _ _ _ _ _ _ _ hc q => mul_int q hc.ok
theorem op_mod : OpR X (binaryOp .Mod) (rI (fun _ j => 0 < j) fun i j => .int (i % j)) := opI fun i j _ _ _ _ _ hc q => by
  have h1 : (0 : Int) < j := hc
  exact mod_int' (by omega) (by rw [Int.fmod_eq_emod_of_nonneg i (by omega)]; exact q)
theorem op_pow : OpR X (binaryOp .Pow) (rI CPow fun i j => .int (i ^ j.toNat)) := opI fun _ _ _ _ _ _ _ hc q => pow_int_small hc.1 hc.2.1 hc.2.2 q
theorem unI {f : Value -> Sem Value} {g : Int -> Int}
    (rule : ∀ (i : Int) (t : Tok) (s : Shared) (Q : Value -> Shared -> Prop) (E : Value -> Shared -> Prop), Q (.int (g i) s.toks) { s with toks := s.toks + 1 } -> wpAny (model X.prog X.w) X.A (f (.int i t)) Q E s) :
    UnR X f (rU fun i => .int (g i)) := by
  intro pins s σ H x v Q I rx h
  obtain ⟨i, rfl, q⟩ := h
  obtain ⟨t, rfl⟩ := rx
  exact rule i t s _ _ ⟨.int (g i), H, I.tok _, ⟨_, rfl⟩, q⟩
theorem un_neg : UnR X (unaryOp .USub) (rU fun i => .int (-i)) := unI fun _ _ _ _ _ q => neg_int q
end
noncomputable def scal : V -> V -> Bool
  | .non, .non => true | .non, .int _ => true | .int _, .non => true | .non, .bl _ => true | .bl _, .non => true | .non, .str _ => true | .str _, .non => true
  | .int _, .int _ => true | .bl _, .bl _ => true | .str _, .str _ => true | .byt _, .byt _ => true
  | .int _, .str _ => true | .str _, .int _ => true | .bl _, .str _ => true | .str _, .bl _ => true
  | _, _ => false
noncomputable def rEq : R2 := fun x y H Q => scal x y = true /\ Q (.bl (decide (x = y))) H
noncomputable def rNe : R2 := fun x y H Q => scal x y = true /\ Q (.bl (!decide (x = y))) H
theorem dec_int {i j : Int} : decide (V.int i = V.int j) = (i == j) := by
  rw [Bool.eq_iff_iff]
  simp
theorem dec_bl {i j : Bool} : decide (V.bl i = V.bl j) = (i == j) := by
  rw [Bool.eq_iff_iff]
  simp
theorem dec_str {i j : Str} : decide (V.str i = V.str j) = (i == j) := by
  rw [Bool.eq_iff_iff]
  simp
theorem dec_byt {i j : Array UInt8} : decide (V.byt i = V.byt j) = (i.toList == j.toList) := by
  rw [Bool.eq_iff_iff]
  cases i
  cases j
  simp
section
variable {X : Cx} {a b c : Expr} {ta tb tc : TE} {pos : Pos}
theorem fin_bl {pins : List (Addr × Obj)} {σ : St} {H : Hp} {s : Shared} {Q : VK} {k k' : Bool} (I : Inv X pins σ H s) (q : Q (.bl k) H) (e : k = k') : EP X pins σ Q (.bool k') s := by
  subst e
  exact ⟨.bl k, H, I, rfl, q⟩
theorem op_eq : OpR X (compareOp .Eq) rEq := by
  intro pins s σ H x y v u Q I rx ry h
  obtain ⟨hs, q⟩ := h
  cases x with
  | non =>
    cases rx
    cases y with
    | non => cases ry; exact PySem.EqNone.eq_none_none (fin_bl I q (by simp))
    | bl j => cases ry; exact PySem.EqNone.eq_none_bool (fin_bl I q (by simp))
    | int j => obtain ⟨t', rfl⟩ := ry; exact PySem.EqNone.eq_none_int (fin_bl I q (by simp))
    | str j => obtain ⟨t', rfl⟩ := ry; exact PySem.EqNone.eq_none_str (fin_bl I q (by simp))
    | _ => exact absurd (show false = true from hs) Bool.false_ne_true
  | bl i =>
    cases rx
    cases y with
    | non => cases ry; exact PySem.EqNone.eq_bool_none (fin_bl I q (by simp))
    | bl j => cases ry; exact eq_bool (fin_bl I q dec_bl)
    | str j => obtain ⟨t', rfl⟩ := ry; exact PySem.EqMixed.eq_bool_str (fin_bl I q (by simp))
    | _ => exact absurd (show false = true from hs) Bool.false_ne_true
  | int i =>
    obtain ⟨t, rfl⟩ := rx
    cases y with
    | non => cases ry; exact PySem.EqNone.eq_int_none (fin_bl I q (by simp))
    | int j => obtain ⟨t', rfl⟩ := ry; exact eq_int (fin_bl I q dec_int)
    | str j => obtain ⟨t', rfl⟩ := ry; exact PySem.EqMixed.eq_int_str (fin_bl I q (by simp))
    | _ => exact absurd (show false = true from hs) Bool.false_ne_true
  | str i =>
    obtain ⟨t, rfl⟩ := rx
    cases y with
    | non => cases ry; exact PySem.EqNone.eq_str_none (fin_bl I q (by simp))
    | bl j => cases ry; exact PySem.EqMixed.eq_str_bool (fin_bl I q (by simp))
    | int j => obtain ⟨t', rfl⟩ := ry; exact PySem.EqMixed.eq_str_int (fin_bl I q (by simp))
    | str j => obtain ⟨t', rfl⟩ := ry; exact eq_str (fin_bl I q dec_str)
    | _ => exact absurd (show false = true from hs) Bool.false_ne_true
  | byt i =>
    obtain ⟨t, rfl⟩ := rx
    cases y with
    | byt j => obtain ⟨t', rfl⟩ := ry; exact PySem.W.eq_bytes (fin_bl I q dec_byt)
    | _ => exact absurd (show false = true from hs) Bool.false_ne_true
  | _ => cases y <;> exact absurd (show false = true from hs) Bool.false_ne_true
theorem op_ne : OpR X (compareOp .NotEq) rNe := by
  intro pins s σ H x y v u Q I rx ry h
  obtain ⟨hs, q⟩ := h
  cases x with
  | non =>
    cases rx
    cases y with
    | non => cases ry; exact PySem.EqNone.ne_none_none (fin_bl I q (by simp))
    | bl j => cases ry; exact PySem.EqNone.ne_none_bool (fin_bl I q (by simp))
    | int j => obtain ⟨t', rfl⟩ := ry; exact PySem.EqNone.ne_none_int (fin_bl I q (by simp))
    | str j => obtain ⟨t', rfl⟩ := ry; exact PySem.EqNone.ne_none_str (fin_bl I q (by simp))
    | _ => exact absurd (show false = true from hs) Bool.false_ne_true
  | bl i =>
    cases rx
    cases y with
    | non => cases ry; exact PySem.EqNone.ne_bool_none (fin_bl I q (by simp))
    | bl j => cases ry; exact ne_bool (fin_bl I q (congrArg not dec_bl))
    | str j => obtain ⟨t', rfl⟩ := ry; exact PySem.EqMixed.ne_bool_str (fin_bl I q (by simp))
    | _ => exact absurd (show false = true from hs) Bool.false_ne_true
  | int i =>
    obtain ⟨t, rfl⟩ := rx
    cases y with
    | non => cases ry; exact PySem.EqNone.ne_int_none (fin_bl I q (by simp))
    | int j => obtain ⟨t', rfl⟩ := ry; exact ne_int (fin_bl I q (congrArg not dec_int))
    | str j => obtain ⟨t', rfl⟩ := ry; exact PySem.EqMixed.ne_int_str (fin_bl I q (by simp))
    | _ => exact absurd (show false = true from hs) Bool.false_ne_true
  | str i =>
    obtain ⟨t, rfl⟩ := rx
    cases y with
    | non => cases ry; exact PySem.EqNone.ne_str_none (fin_bl I q (by simp))
    | bl j => cases ry; exact PySem.EqMixed.ne_str_bool (fin_bl I q (by simp))
    | int j => obtain ⟨t', rfl⟩ := ry; exact PySem.EqMixed.ne_str_int (fin_bl I q (by simp))
    | str j => obtain ⟨t', rfl⟩ := ry; exact ne_str (fin_bl I q (congrArg not dec_str))
    | _ => exact absurd (show false = true from hs) Bool.false_ne_true
  | byt i =>
    obtain ⟨t, rfl⟩ := rx
    cases y with
    | byt j => obtain ⟨t', rfl⟩ := ry; exact PySem.W.ne_bytes (fin_bl I q (congrArg not dec_byt))
    | _ => exact absurd (show false = true from hs) Bool.false_ne_true
  | _ => cases y <;> exact absurd (show false = true from hs) Bool.false_ne_true
theorem op_lt : OpR X (compareOp .Lt) (rI0 fun i j => .bl (decide (i < j))) := opB0 fun _ _ _ _ _ _ _ q => lt_int q
theorem op_gt : OpR X (compareOp .Gt) (rI0 fun i j => .bl (decide (j < i))) := opB0 fun _ _ _ _ _ _ _ q => gt_int q
theorem op_ge : OpR X (compareOp .GtE) (rI0 fun i j => .bl (decide (j <= i))) := opB0 fun _ _ _ _ _ _ _ q => ge_int q
theorem op_notN : OpR X (compareOp .IsNot) (fun x y H Q => y = .non /\ Q (.bl (!decide (x = .non))) H) := by
  intro pins s σ H x y v u Q I rx ry h
  obtain ⟨rfl, q⟩ := h
  cases ry
  refine isnot_none_gen (fin_bl I q ?_)
  cases x <;> first
    | (cases rx; rfl)
    | (obtain ⟨t, rfl⟩ := rx; rfl)
theorem nomark (b : Expr) {op : CmpOp} (h : op ≠ .In := by decide) (h2 : op ≠ .NotIn := by decide) : behindInMarks op b = false := by
  have e1 : (op == CmpOp.In) = false := by cases op <;> first | rfl | exact absurd rfl h
  have e2 : (op == CmpOp.NotIn) = false := by cases op <;> first | rfl | exact absurd rfl h2
  cases b <;> simp [behindInMarks, e1, e2]
theorem pe_cmpR {op : CmpOp} {r : R2} (ho : OpR X (compareOp op) r) (ha : PE X a ta) (hb : PE X b tb) (hm : behindInMarks op b = false) : PE X (.Compare a [op] [b] pos) (tOp r ta tb) := by
  intro pins s σ H Q I h
  exact wpAny_Compare1 (binT ha hb I h fun v u s2 x y H2 I2 rx ry q => ho pins s2 σ H2 x y v u Q I2 rx ry q) hm
noncomputable def tTest (t : TE) : TT := fun σ H Q => t σ H fun x H' => ∃ k, x = .bl k /\ Q k H'
theorem pt_cmpR {op : CmpOp} {r : R2} (ho : OpR X (compareOp op) r) (ha : PE X a ta) (hb : PE X b tb) (hm : behindInMarks op b = false) : PT X (.Compare a [op] [b] pos) (tTest (tOp r ta tb)) := by
  intro pins s σ H Q I h
  refine wpAny_isTrue_Compare1 (thn (ha pins s σ H _ I h) fun v s1 ⟨x, H1, I1, r1, q1⟩ => thn (hb pins s1 σ H1 _ I1 q1) fun u s2 ⟨y, H2, I2, r2, q2⟩ =>
    thn (ho pins s2 σ H2 x y v u _ I2 r1 r2 q2) fun c s3 ⟨z, H3, I3, r3, k, e, q3⟩ => ?_) hm
  subst e
  cases r3
  exact wpAny_truthy_bool ⟨H3, I3, q3⟩
theorem line63 : (sizeLine : Nat) < 2 ^ 63 := by rw [sizeLine_eq]; decide
theorem vals1 {x : V} {us : List Value} (r : Vals [x] us) : ∃ u, us = [u] /\ RelV x u := by
  cases r with
  | cons r1 r2 => cases r2; exact ⟨_, rfl, r1⟩
theorem call_abs : CallR X (.builtin "abs") (fun xs H Q => ∃ i, xs = [.int i] /\ Q (.int (if i < 0 then -i else i)) H) := by
  intro pins s σ H xs us Q I r h
  obtain ⟨i, rfl, q⟩ := h
  obtain ⟨u, rfl, t, rfl⟩ := vals1 r
  exact call_abs_int fun u tk => ⟨.int (if i < 0 then -i else i), H, I.tok _, ⟨_, rfl⟩, q⟩
end
end L2
namespace L2
open PySem PySem.Spec PyProof.Rows
structure ObjM (h : Heap) (x dx C : Addr) (mA : Str -> Option Value) : Prop where
  obj : h.get? x = some (PySem.W.instObj C dx)
  ns : h.Ns1 dx mA
  ne : dx ≠ x
theorem lookIn_ns {h : Heap} {dx : Addr} {mA : Str -> Option Value} (n : h.Ns1 dx mA) : ∃ od, h.get? dx = some od /\ ∀ name, PySem.W.lookIn name od = some (mA name) := by
  obtain ⟨o, es, ep, ho, hd, hk, _, hm⟩ := n
  refine ⟨o, ho, fun name => ?_⟩
  have e := hm name
  unfold nsFind findBy at e
  rw [<- Array.find?_toList] at e
  unfold PySem.W.lookIn
  rw [hd]
  dsimp only
  split
  . rename_i y q
    rw [q] at e
    exact congrArg some e
  . rename_i q
    rw [q] at e
    have a : es.toList.any (·.refKey) = false := by
      rw [List.any_eq_false]
      intro y hy
      obtain ⟨z, t, hkey⟩ := hk y (Array.mem_toList_iff.mp hy)
      simp [DictEntry.refKey, hkey]
    have a' : ¬ es.toList.any (·.refKey) = true := by rw [a]; exact Bool.false_ne_true
    rw [if_neg a']
    exact congrArg some e
theorem ObjM.look {h : Heap} {x dx C : Addr} {mA : Str -> Option Value} (I : ObjM h x dx C mA) : ∃ od, PySem.W.InstAt h x (PySem.W.instObj C dx) C (some od) /\ ∀ name, PySem.W.lookIn name od = some (mA name) :=
  let ⟨od, ho, hl⟩ := lookIn_ns I.ns
  ⟨od, ⟨I.obj, rfl, rfl, ho⟩, hl⟩
section
variable {prog : Program} {w : World} {A : Around} {E : Value -> Shared -> Prop} {s : Shared} {K : PySem.W.Frag} {x dx C f : Addr} {mA : Str -> Option Value} {name : Str} {v : Value}
end
section
variable {P : Program} {w : World} {H H' : Hp} {h h' : Heap} {a C dx : Addr} {fs : List (Str × V)}
theorem ins_get (hok : HOk P w H h) (e : H a = some (.ins C dx fs)) : ∃ mA, ObjM h a dx C mA /\ (∀ f, RelO (fs.lookup f) (mA f)) /\ PySem.Within mA (fs.map (·.1)) /\ fs.length <= 1000 /\ H dx = some (.own a) := by
  obtain ⟨d, z, ne, ob, mA, n, r, q⟩ := (show ObjOk P w H h a (.ins C dx fs) from hok a _ e)
  exact ⟨mA, ⟨ob, n, ne⟩, r, q, z, d⟩
end
structure Cls (K : PySem.W.Frag) (C : Addr) : Prop where
  pg : PySem.W.plainGet K C Str.empty = true
  hd : PySem.W.hasDictIn K C = true
  po : PySem.W.plainOver K C = true
  sa : PySem.W.findIn K (.ref C) "__setattr__" = some (some (.builtin "object.__setattr__"))
theorem Cls.get {K : PySem.W.Frag} {C : Addr} (c : Cls K C) (f : Str) : PySem.W.plainGet K C f = true := c.pg
section
variable {X : Cx} {pins : List (Addr × Obj)} {σ : St} {H : Hp} {s : Shared} {a C dx : Addr} {fs : List (Str × V)} {f : Str} {v : V} {A : Around} {E : Value -> Shared -> Prop}
end
section
variable {X : Cx} {o e value : Expr} {f : Str} {pos pos' : Pos} {ta : TE}
end
section
variable {X : Cx} {pins : List (Addr × Obj)} {σ : St} {H : Hp} {s : Shared} {A : Around} {E : Value -> Shared -> Prop} {Q : Value -> Shared -> Prop} {c : Value} {b : Bool}
inductive TyOf (K : PySem.W.Frag) (H : Hp) : V -> Value -> Prop where
  | non : TyOf K H .non (.type "NoneType")
  | bl (x : Bool) : TyOf K H (.bl x) (.type "bool")
  | int (i : Int) : TyOf K H (.int i) (.type "int")
  | str (x : Str) : TyOf K H (.str x) (.type "str")
  | flt (x : UInt64) : TyOf K H (.flt x) (.type "float")
  | lst {a : Addr} {xs : List V} (e : H a = some (.lst xs)) : TyOf K H (.ref a) (.type "list")
  | frz {a : Addr} {o : Obj} {xs : List V} (e : H a = some (.frz o (.lst xs))) : TyOf K H (.ref a) (.type "list")
  | tup {a : Addr} {xs : List V} (e : H a = some (.tup xs)) : TyOf K H (.ref a) (.type "tuple")
  | dK {a : Addr} {kvs : List (Key × V)} (e : H a = some (.dK kvs)) : TyOf K H (.ref a) (.type "dict")
  | dT {a : Addr} {kvs : List (List Key × V)} (e : H a = some (.dT kvs)) : TyOf K H (.ref a) (.type "dict")
  | ins {a C dx : Addr} {fs : List (Str × V)} (e : H a = some (.ins C dx fs)) (cl : Cls K C) (ha : PySem.W.findIn K (.ref C) "__class__" = some (some (.builtin "object.__class__")))
      (hn : PySem.W.specialIn K (.builtin "object.__class__") "__get__" = some (some (.builtin "getset_descriptor.__get__"))) (htk : PySem.W.takesIn K (.builtin "object.__class__") = some true)
      (hm : PySem.W.mroIn K C (.type "object") = some true) : TyOf K H (.ref a) (.ref C)
theorem isinst_ok {x : V} {u t : Value} (I : Inv X pins σ H s) (rx : RelV x u) (ty : TyOf X.K H x t) (e : PySem.W.kitOne X.K t c = some b) (h : ∀ tk, Q (.bool b) { s with toks := tk }) :
    wpAny (model X.prog X.w) A (call (.builtin "isinstance") [u, c]) Q E s := by
  cases ty with
  | non => cases (show u = Value.none from rx); exact PySem.W.kia_one PySem.W.kitx_none I.kIn True.intro e (fun z => nomatch z) h
  | bl y => cases (show u = Value.bool y from rx); exact PySem.W.kia_one PySem.W.kitx_bool I.kIn True.intro e (fun z => nomatch z) h
  | int i => obtain ⟨t, q⟩ := (show ∃ t, u = Value.int i t from rx); cases q; exact PySem.W.kia_one PySem.W.kitx_int I.kIn True.intro e (fun z => nomatch z) h
  | str y => obtain ⟨t, q⟩ := (show ∃ t, u = Value.str y t from rx); cases q; exact PySem.W.kia_one PySem.W.kitx_str I.kIn True.intro e (fun z => nomatch z) h
  | flt y => obtain ⟨t, q⟩ := (show ∃ t, u = Value.float y t from rx); cases q; exact PySem.W.kia_one PySem.W.kitx_float I.kIn True.intro e (fun z => nomatch z) h
  | @lst a xs ea =>
    cases (show u = Value.ref a from rx)
    obtain ⟨_, _, n, _, h1⟩ := (show ObjOk X.prog X.w H s.heap a (.lst xs) from I.hok a _ ea)
    exact PySem.W.kia_one PySem.W.kitx_list I.kIn ⟨_, h1, rfl⟩ e (fun z => nomatch z) h
  | @frz a ob xs ea =>
    cases (show u = Value.ref a from rx)
    obtain ⟨_, _, _, n, _, h1⟩ := (show ObjOk X.prog X.w H s.heap a (.frz ob (.lst xs)) from I.hok a _ ea)
    exact PySem.W.kia_one PySem.W.kitx_list I.kIn ⟨_, h1, rfl⟩ e (fun z => nomatch z) h
  | @tup a xs ea =>
    cases (show u = Value.ref a from rx)
    obtain ⟨_, _, _, p⟩ := (show ObjOk X.prog X.w H s.heap a (.tup xs) from I.hok a _ ea)
    obtain ⟨o, h1, h2, _⟩ := p
    exact PySem.W.kia_one PySem.W.kitx_tuple I.kIn ⟨o, h1, h2⟩ e (fun z => nomatch z) h
  | @dK a kvs ea =>
    cases (show u = Value.ref a from rx)
    obtain ⟨_, _, vs, _, p⟩ := (show ObjOk X.prog X.w H s.heap a (.dK kvs) from I.hok a _ ea)
    obtain ⟨o, es, ep, h1, h2, _⟩ := p
    exact PySem.W.kia_one PySem.W.kitx_dict I.kIn ⟨o, h1, h2.1⟩ e (fun z => nomatch z) h
  | @dT a kvs ea =>
    cases (show u = Value.ref a from rx)
    obtain ⟨_, _, xs, _, o, es, ep, h1, h2, _⟩ := (show ObjOk X.prog X.w H s.heap a (.dT kvs) from I.hok a _ ea)
    exact PySem.W.kia_one PySem.W.kitx_dict I.kIn ⟨o, h1, h2.1⟩ e (fun z => nomatch z) h
  | @ins a C dx fs ea cl ha hn htk hm =>
    cases (show u = Value.ref a from rx)
    obtain ⟨mA, O, _⟩ := ins_get I.hok ea
    obtain ⟨od, J, _⟩ := O.look
    exact PySem.W.kia_one (PySem.W.kitx_own (cl.get _) cl.hd ha hn htk hm) I.kIn J e (fun z => nomatch z) h
end
end L2
namespace L2
open PySem PySem.Spec PyProof.Rows
structure Room (k : Nat) (A : Around) : Prop where
  hd : A.handled = none
  dp : A.depth + 3 * k + 5 < recursionLimit
  un : A.units + 16 * k + 200 < cLine
theorem Room.mono {j k : Nat} {A : Around} (r : Room k A) (h : j <= k) : Room j A := ⟨r.hd, by have := r.dp; omega, by have := r.un; omega⟩
theorem Room.deeper {k : Nat} {A : Around} (r : Room (k + 1) A) (env : Env) : Room k (A.deeper env) :=
  ⟨r.hd, by have := r.dp; show A.depth + 1 + 3 * k + 5 < _; omega, by have := r.un; show A.units + 3 + 16 * k + 200 < _; omega⟩
theorem Room.depth {k : Nat} {A : Around} (r : Room k A) : A.depth < recursionLimit := by have := r.dp; omega
theorem Room.units {k : Nat} {A : Around} (r : Room k A) : A.units + 64 < cLine := by have := r.un; omega
theorem Room.units0 {k : Nat} {A : Around} (r : Room k A) : A.units < cLine := by have := r.un; omega
noncomputable def tNil : TA := fun _ H Q => Q [] H
noncomputable def tCons (ta : TE) (tr : TA) : TA := fun σ H Q => ta σ H fun x H1 => tr σ H1 fun xs H2 => Q (x :: xs) H2
section
variable {X : Cx} {e : Expr} {es : List Expr} {te : TE} {t : TA} {pos : Pos}
theorem pa_nil : PA X [] tNil := fun _ _ _ _ H Q I h => Calls.spliced_nil ⟨[], H, I, .nil, h⟩
theorem pa_cons (ha : PE X e te) (hr : PA X es t) (hs : starEach (e :: es) X.env = (false, eval e X.env) :: starEach es X.env := by rfl) : PA X (e :: es) (tCons te t) := by
  intro pos pins s σ H Q I h
  rw [hs]
  show wpAny _ _ (spliced ((false, eval e X.env) :: backTo pos (starEach es X.env))) _ _ s
  refine Calls.spliced_cons (thn (ha pins s σ H _ I h) fun u s1 ⟨x, H1, I1, r1, q1⟩ => ?_)
  exact thn (hr pos pins s1 σ H1 _ I1 q1) fun us s2 ⟨xs, H2, I2, r2, q2⟩ => ⟨x :: xs, H2, I2, .cons r1 r2, q2⟩
noncomputable def tTup (t : TA) : TE := fun σ H Q => t σ H fun xs H1 => xs.length <= sizeLine /\ ∀ p, H1 p = none -> Q (.ref p) (upd H1 p (.tup xs))
noncomputable def tLst (t : TA) : TE := fun σ H Q => t σ H fun xs H1 => xs.length <= sizeLine /\ ∀ p, H1 p = none -> Q (.ref p) (upd H1 p (.lst xs))
theorem pe_tup {x1} (h : PA X es t) : PE X (.Tuple es x1 pos) (tTup t) := by
  intro pins s σ H Q I hq
  refine wpAny_Tuple_spliced (thn (h pos pins s σ H _ I hq) fun us s1 ⟨xs, H1, I1, r, z, q⟩ => ⟨by rw [<- r.length]; exact z, ?_⟩)
  have hf : H1 s1.heap.objs.size = none := I1.hok.fresh (Nat.le_refl _)
  refine ⟨.ref s1.heap.objs.size, upd H1 s1.heap.objs.size (.tup xs), I1.laid (t' := s1.toks) (fun b u e => Heap.get?_push_of_some _ e) (Nat.le_refl _) ?_, rfl, q _ hf⟩
  exact ⟨z, us, r, ⟨_, Heap.get?_push_size _ rfl, rfl, _, rfl⟩⟩
theorem pe_lst (h : PA X es t) : PE X (.List es pos) (tLst t) := by
  intro pins s σ H Q I hq
  refine wpAny_List_spliced (thn (h pos pins s σ H _ I hq) fun us s1 ⟨xs, H1, I1, r, z, q⟩ => ⟨by rw [<- r.length]; exact z, ?_⟩)
  have hf : H1 s1.heap.objs.size = none := I1.hok.fresh (Nat.le_refl _)
  refine ⟨.ref s1.heap.objs.size, upd H1 s1.heap.objs.size (.lst xs), I1.laid (t' := s1.toks) (fun b u e => Heap.get?_push_of_some _ e) (Nat.le_refl _) ?_, rfl, q _ hf⟩
  exact ⟨z, us, 0, r, Heap.get?_push_size _ rfl⟩
end
noncomputable abbrev Sp := List V -> Hp -> VK -> XK -> Prop
noncomputable abbrev CXT := List Env -> Hp -> Shared -> XK -> Value -> Shared -> Prop
structure Env0 (P : Program) (w : World) (K : PySem.W.Frag) (mg : Str -> Option Value) (base : Heap) (A : Around) (outer : List Env) (s : Shared) (H : Hp) : Prop where
  frames : A.frames = some outer
  mod : Mod K mg base
  bs : ∀ b o, base.get? b = some o -> s.heap.get? b = some o /\ H b = none
  bsz : base.objs.size <= s.heap.objs.size
  funs : s.heap.FunFrames base outer
  frf : ∀ b ∈ frs outer, H b = none
  hok : HOk P w H s.heap
  bare : AllBare s.gens
noncomputable def CE (outer : List Env) (P : Program) (w : World) (H : Hp) (s : Shared) (Q : VK) (u : Value) (s' : Shared) : Prop :=
  ∃ v H', s'.os = s.os /\ AllBare s'.gens /\ Un (frs outer) [] H H' s.heap s'.heap /\ HOk P w H' s'.heap /\ RelV v u /\ Q v H'
noncomputable def CR (CX : CXT) (outer : List Env) (P : Program) (w : World) (H : Hp) (s : Shared) (Q : VK) (E : XK) (r : Result) (s' : Shared) : Prop :=
  match r with
  | .ok (.ret u) => CE outer P w H s Q u s'
  | .ok _ => False
  | .error e => CX outer H s E e s'
structure FnOk (P : Program) (w : World) (K : PySem.W.Frag) (mg : Str -> Option Value) (base : Heap) (CX : CXT) (k : Nat) (f : Addr) (fd : FuncData) (ps : List Str) (sp : Sp) : Prop where
  len : ∀ vs H Q E, sp vs H Q E -> vs.length = ps.length
  run : ∀ (A : Around) (outer : List Env) (s : Shared) (H : Hp) (args : Args) (us : List Value) (vs : List V) (Q : VK) (E : XK), Room k A -> Env0 P w K mg base A outer s H -> BindsTo s fd args (ps.zip us) -> Vals vs us -> sp vs H Q E ->
    codeAny (model P w) A (.call (.ref f) args) (CR CX outer P w H s Q E) s
section
variable {X : Cx} {pins : List (Addr × Obj)} {σ : St} {H : Hp} {s s' : Shared}
theorem Inv.env0 (I : Inv X pins σ H s) : Env0 X.prog X.w X.K X.mg X.base X.A X.stack s H :=
  ⟨I.ok.frames, I.ok.mod, I.bs, Nat.le_trans I.ok.bsz I.sz, I.stack, I.stkFree, I.hok, I.bare⟩
theorem Inv.after {Q : VK} {u : Value} (I : Inv X pins σ H s) (h : CE X.stack X.prog X.w H s Q u s') : EP X pins σ Q u s' := by
  obtain ⟨v, H', os, bare, un, hok, r, q⟩ := h
  obtain ⟨hh, g, d, t, os'⟩ := s'
  obtain rfl : os' = s.os := os
  exact ⟨v, H', I.call (h' := hh) (g' := g) (d' := d) (t' := t) (ch := []) un hok bare (fun b z => absurd z (by simp)), r, q⟩
end
noncomputable def tCall (sp : Sp) (dvs : List V) (E : XK) (t : TA) : TE := fun σ H Q => t σ H fun vs H1 => sp (vs ++ dvs) H1 Q E
noncomputable def Binds (K : PySem.W.Frag) (fd : FuncData) (ps : List Str) (ds : List Value) : Prop :=
  ∀ (s : Shared) (us : List Value), K.In s.heap -> (us ++ ds).length = ps.length -> BindsTo s fd ⟨us, []⟩ (ps.zip (us ++ ds))
theorem Binds.all {K : PySem.W.Frag} {fd : FuncData} {ps : List Str} (h : ∀ us : List Value, us.length = ps.length -> bindArgs fd ⟨us, []⟩ = pure (ps.zip us)) : Binds K fd ps [] := fun s us _ hl => by
  rw [List.append_nil] at hl ⊢
  exact .of_eq (h us hl)
noncomputable def Passes (CX : CXT) (X : Cx) (E : XK) : Prop := ∀ (pins : List (Addr × Obj)) (σ : St) (H : Hp) (s : Shared) (e : Value) (s' : Shared), Inv X pins σ H s -> CX X.stack H s E e s' -> X.xe e s'
section
variable {X : Cx} {CX : CXT} {k : Nat} {f C : Addr} {fd : FuncData} {ps : List Str} {sp : Sp} {dvs : List V} {ds : List Value} {E : XK} {x m : Str} {p pos apos : Pos} {e o : Expr} {es : List Expr} {ta : TE} {t : TA}
theorem run_fn {pins : List (Addr × Obj)} {σ : St} {H : Hp} {s : Shared} {Q : VK} {us : List Value} {vs : List V} (F : FnOk X.prog X.w X.K X.mg X.base CX k f fd ps sp) (hr : Room k X.A) (hb : Binds X.K fd ps ds) (hd : Vals dvs ds) (hx : Passes CX X E)
    (I : Inv X pins σ H s) (r : Vals vs us) (h : sp (vs ++ dvs) H Q E) : wpAny (model X.prog X.w) X.A (call (.ref f) us) (EP X pins σ Q) X.xe s := by
  have r2 : Vals (vs ++ dvs) (us ++ ds) := r.append hd
  have hl : (us ++ ds).length = ps.length := by rw [<- r2.length]; exact F.len _ _ _ _ h
  refine wpAny_call (codeAny_mono (F.run X.A X.stack s H ⟨us, []⟩ (us ++ ds) (vs ++ dvs) Q E hr I.env0 (hb s us I.kIn hl) r2 h) fun r s' hq => ?_)
  cases r with
  | error e => exact hx pins σ H s e s' I hq
  | ok fl =>
    cases fl with
    | ret u => exact I.after hq
    | next => exact False.elim hq
    | brk => exact False.elim hq
    | cont => exact False.elim hq
theorem pe_call (F : FnOk X.prog X.w X.K X.mg X.base CX k f fd ps sp) (hr : Room k X.A) (hg : Gl X x) (hm : X.mg x = some (.ref f)) (hk : PySem.W.keepIn X.K (.ref f) = true) (hb : Binds X.K fd ps ds) (hd : Vals dvs ds) (hx : Passes CX X E)
    (ha : PA X (e :: es) t) (hdb : (x == ("__debug__" : Str)) = false := by decide) (he : starEach (e :: es) X.env = (false, eval e X.env) :: starEach es X.env := by rfl) (hpl : (backTo pos (starEach es X.env)).any (·.1) = false := by rfl) :
    PE X (.Call (.Name x p) (e :: es) [] pos) (tCall sp dvs E t) := by
  intro pins s σ H Q I h
  refine wpAny_Call_Name_kw (ld_glob I hg hm ?_ hdb)
  refine PySem.W.callWith_K (h₀ := X.base) I.ok.mod.kin hk (thn (ha pos pins s σ H _ I h) fun us s1 ⟨vs, H1, I1, r, q⟩ => ⟨I1.kIn, ?_⟩) he hpl
  exact run_fn F hr hb hd hx I1 r q
end
section
variable {X : Cx} {CX : CXT} {k : Nat} {f C : Addr} {fd : FuncData} {ps : List Str} {sp : Sp} {E : XK} {x m : Str} {p pos apos : Pos} {e o : Expr} {es : List Expr} {te ta : TE} {t tk : TA} {nm : Option Str}
variable {g : List Value -> List Value -> List Value}
end
structure FnScope (N P : List Str) (sc : Scope) : Prop where
  kind : sc.kind = .function
  co : sc.isCoroutine = false
  gen : sc.isGenerator = false
  nd : N.Nodup
  pre : N.take P.length = P
  par : ∀ x ∈ P, sc.names.lookup x = some .local \/ sc.names.lookup x = some .cell
  nofree : ∀ y ∈ sc.names, y.2 ≠ .free
theorem bindL_out {kindOf : Str -> Option NameKind} {x : Str} : ∀ {binds : List (Str × Value)} {m : Str -> Option Value}, (∀ v, (x, v) ∉ binds) -> bindL kindOf binds m x = m x
  | [], _, _ => rfl
  | (n, v) :: r, m, h => by
    unfold bindL
    rw [bindL_out fun w hw => h w (List.mem_cons_of_mem _ hw)]
    split
    . have : x ≠ n := by rintro rfl; exact h v List.mem_cons_self
      simp [this]
    . rfl
theorem bindC_out {kindOf : Str -> Option NameKind} {x : Str} : ∀ {binds : List (Str × Value)} {m : Str -> Option Value}, (∀ v, (x, v) ∉ binds) -> bindC kindOf binds m x = m x
  | [], _, _ => rfl
  | (n, v) :: r, m, h => by
    unfold bindC
    rw [bindC_out fun w hw => h w (List.mem_cons_of_mem _ hw)]
    split
    . rfl
    . have : x ≠ n := by rintro rfl; exact h v List.mem_cons_self
      simp [this]
theorem bindL_get {kindOf : Str -> Option NameKind} {x : Str} {v : Value} : ∀ {P : List Str} {vs : List Value} {i : Nat} {m : Str -> Option Value}, P.Nodup -> P[i]? = some x -> vs[i]? = some v -> kindOf x = some .local ->
    bindL kindOf (P.zip vs) m x = some v
  | [], _, _, _, _, h, _, _ => by simp at h
  | _ :: _, [], _, _, _, _, h, _ => by simp at h
  | p :: P, w :: vs, 0, m, nd, h1, h2, hk => by
    simp at h1 h2; subst h1; subst h2
    show bindL kindOf ((p, w) :: P.zip vs) m p = _
    unfold bindL
    rw [bindL_out fun v hv => (List.nodup_cons.mp nd).1 (List.of_mem_zip hv).1, if_pos hk]
    simp
  | p :: P, w :: vs, i + 1, m, nd, h1, h2, hk => by
    show bindL kindOf ((p, w) :: P.zip vs) m x = _
    unfold bindL
    exact bindL_get (i := i) (List.nodup_cons.mp nd).2 (by simpa using h1) (by simpa using h2) hk
theorem bindC_get {kindOf : Str -> Option NameKind} {x : Str} {v : Value} : ∀ {P : List Str} {vs : List Value} {i : Nat} {m : Str -> Option Value}, P.Nodup -> P[i]? = some x -> vs[i]? = some v -> kindOf x ≠ some .local ->
    bindC kindOf (P.zip vs) m x = some v
  | [], _, _, _, _, h, _, _ => by simp at h
  | _ :: _, [], _, _, _, _, h, _ => by simp at h
  | p :: P, w :: vs, 0, m, nd, h1, h2, hk => by
    simp at h1 h2; subst h1; subst h2
    show bindC kindOf ((p, w) :: P.zip vs) m p = _
    unfold bindC
    rw [bindC_out fun v hv => (List.nodup_cons.mp nd).1 (List.of_mem_zip hv).1, if_neg hk]
    simp
  | p :: P, w :: vs, i + 1, m, nd, h1, h2, hk => by
    show bindC kindOf ((p, w) :: P.zip vs) m x = _
    unfold bindC
    exact bindC_get (i := i) (List.nodup_cons.mp nd).2 (by simpa using h1) (by simpa using h2) hk
noncomputable def start (N : List Str) (vs : List V) : St := vs.map some ++ List.replicate (N.length - vs.length) none
noncomputable def cxOf (CX : CXT) (P : Program) (w : World) (K : PySem.W.Frag) (mg : Str -> Option Value) (base : Heap) (N : List Str) (qual : Str) (scope : Scope) (f : Addr) (cd : Value) (A : Around) (outer : List Env) (s : Shared) (H : Hp) (E : XK) : Cx where
  prog := P
  w := w
  K := K
  mg := mg
  base := base
  A := A.deeper (envOfC qual scope s.heap.objs.size f cd)
  N := N
  s₀ := s
  H₀ := H
  env := envOfC qual scope s.heap.objs.size f cd
  outer := outer
  stack := envOfC qual scope s.heap.objs.size f cd :: outer
  ex := []
  calm := true
  fn := fun _ => true
  pn := []
  xe := fun e s' => wpAny (model P w) (A.deeper (envOfC qual scope s.heap.objs.size f cd)) (leaving (envOfC qual scope s.heap.objs.size f cd) e) (fun _ s'' => CX outer H s E e s'') (fun e' s'' => CX outer H s E e' s'') s'
theorem cell_has {sc : Scope} {n : Nat} {x : Str} (h : sc.names.lookup x = some .cell) : ∃ c, (cellsFrom n sc.names []).lookup x = some c := by
  have q := PySem.W.cellsFrom_some sc.names n [] (.inl h)
  exact Option.isSome_iff_exists.mp q
theorem inv_start {CX : CXT} {P : Program} {w : World} {K : PySem.W.Frag} {mg : Str -> Option Value} {base : Heap} {N ps : List Str} {qual : Str} {scope : Scope} {f : Addr} {cd : Value} {A : Around} {outer : List Env} {s s1 : Shared} {H : Hp} {E : XK} {us : List Value} {vs : List V}
    (S : FnScope N ps scope) (hd : A.handled = none) (e0 : Env0 P w K mg base A outer s H) (hl : vs.length = ps.length) (r : Vals vs us)
    (x : InCallC s s.heap.objs.size (bindL (envOfC qual scope s.heap.objs.size f cd).kindOf (ps.zip us) fun _ => none) (cellsFrom (s.heap.objs.size + 1) scope.names []) (bindC (envOfC qual scope s.heap.objs.size f cd).kindOf (ps.zip us) fun _ => none) s1) :
    Inv (cxOf CX P w K mg base N qual scope f cd A outer s H E) [] (start N vs) H s1 := by
  have hpl : ps.length <= N.length := by have := congrArg List.length S.pre; rw [List.length_take] at this; omega
  obtain ⟨h1, tk, rfl, hk⟩ := x.done
  have noA : ∀ b : Addr, b ∉ (cxOf CX P w K mg base N qual scope f cd A outer s H E).ex := fun b z => absurd (show b ∈ ([] : List Addr) from z) (by simp)
  refine ⟨⟨e0.mod, S.kind, rfl, rfl, Nat.le_refl _, fun y z c h1 h2 => ?_, fun y hy => ?_, fun y c _ h => ?_, fun _ => hd, Around.frames_deeper e0.frames, .inr ⟨rfl, rfl⟩, fun b z => absurd z (noA b), e0.bs, e0.bsz, fun b _ _ => noA b, fun b z => absurd z (noA b), e0.funs, e0.frf⟩,
    rfl, e0.bare, Un.kept hk, ⟨_, x.toInCall.ns, fun i y v h1 h2 h3 => ?_⟩, fun y c h => ⟨_, x.cell y c h⟩, e0.hok.fresh (Nat.le_refl _), fun y c h => ?_, fun p hp => absurd (show p ∈ ([] : List (Addr × Obj)) from hp) (by simp), e0.hok.kept hk, ?_⟩
  . exact name_of_addr x.apart (PySem.mem_of_lookup h1) (PySem.mem_of_lookup h2)
  . have hy : scope.names.lookup y = some .cell \/ scope.names.lookup y = some .free := hy
    rcases hy with hy | hy
    . exact cell_has hy
    . exact absurd rfl (S.nofree _ (PySem.mem_of_lookup hy))
  . exact Nat.le_of_lt (x.above y c (PySem.mem_of_lookup h))
  . have hi : i < vs.length := by
      unfold start at h2
      by_cases hi : i < vs.length
      . exact hi
      . rw [List.getElem?_append_right (by simpa using hi)] at h2
        rw [List.getElem?_replicate] at h2
        split at h2 <;> cases h2
    have ha : vs[i]? = some v := by
      unfold start at h2
      rw [List.getElem?_append_left (by simpa using hi), List.getElem?_map] at h2
      cases e : vs[i]? with
      | none => rw [e] at h2; cases h2
      | some a => rw [e] at h2; cases h2; rfl
    obtain ⟨u, hu, rv⟩ := r.get ha
    have hp : ps[i]? = some y := by
      rw [<- S.pre, List.getElem?_take_of_lt (by omega)]; exact h1
    have ndP : ps.Nodup := by rw [<- S.pre]; exact S.nd.sublist (List.take_sublist _ _)
    refine ⟨u, rv, ?_⟩
    rcases S.par y (List.mem_of_getElem? hp) with k | k
    . exact .inl ⟨k, bindL_get ndP hp hu k⟩
    . obtain ⟨c, e⟩ := cell_has (n := s.heap.objs.size + 1) k
      refine .inr ⟨.inl k, c, e, ?_⟩
      have q := x.cell y c e
      rw [bindC_get ndP hp hu (by show scope.names.lookup y ≠ _; rw [k]; decide)] at q
      exact q
  . exact e0.hok.fresh (Nat.le_of_lt (x.above y c (PySem.mem_of_lookup h)))
  . unfold start
    show _ = N.length
    rw [List.length_append, List.length_map, List.length_replicate]
    omega
theorem fn_of {CX : CXT} {P : Program} {w : World} {K : PySem.W.Frag} {mg : Str -> Option Value} {base : Heap} {k : Nat} {f : Addr} {name qual : Str} {params : Arguments} {body : List Stmt} {scope : Scope} {dV kV doc pm cdv ct oc : Value} {an od : Option Addr}
    {osl : Array (Option Value)} {N ps : List Str} {sp : Sp} (lk : K.lookup f = some ⟨oc, od, .func (PySem.W.fnOf name qual params body scope dV kV doc pm an cdv ct), osl⟩) (hcd : PySem.W.codeIn K cdv qual = true) (S : FnScope N ps scope)
    (len : ∀ vs H Q E, sp vs H Q E -> vs.length = ps.length)
    (hbody : ∀ (A : Around) (outer : List Env) (s : Shared) (H : Hp) (vs : List V) (Q : VK) (E : XK), Room k (A.deeper (envOfC qual scope s.heap.objs.size f cdv)) -> sp vs H Q E ->
      ∃ t, PSs (cxOf CX P w K mg base N qual scope f cdv A outer s H E) body t /\ t { nx := fun _ H' => Q .non H', rt := Q } (start N vs) H) :
    FnOk P w K mg base CX (k + 1) f (PySem.W.fnOf name qual params body scope dV kV doc pm an cdv ct) ps sp := by
  refine ⟨len, fun A outer s H args us vs Q E hr e0 hb r hsp => ?_⟩
  have hl := len _ _ _ _ hsp
  have KX : K.In s.heap := e0.mod.kin.keeps fun b o e => (e0.bs b o e).1
  have lim : s.heap.NoLimit := e0.mod.nolimit.keeps fun b o e => (e0.bs b o e).1
  have hkind : ∀ y ∈ ps.zip us, scope.names.lookup y.1 = some .local \/ (scope.names.lookup y.1 = some .cell /\ ((cellsFrom (s.heap.objs.size + 1) scope.names []).lookup y.1).isSome = true) := fun ⟨n, v⟩ hy => by
    rcases S.par n (List.of_mem_zip hy).1 with q | q
    . exact .inl q
    . exact .inr ⟨q, PySem.W.cellsFrom_some _ _ _ (.inl q)⟩
  refine codeAny_call_function hr.depth (KX _ _ lk) rfl S.co S.gen rfl (PySem.W.codeRec_of KX hcd) (hb _ _ _ _ ?_)
  refine wpAny_newFunctionEnv_cells S.kind hkind fun env he s1 x => ?_
  subst he
  refine ⟨lim.keeps x.toInCall.keep, codeAny_func ?_⟩
  obtain ⟨t, ht, hq⟩ := hbody A outer s H vs Q E (hr.deeper _) hsp
  have I : Inv (cxOf CX P w K mg base N qual scope f cdv A outer s H E) [] (start N vs) H s1 := inv_start S hr.hd e0 hl r x
  refine wpAny_mono (ht [] s1 (start N vs) H _ I hq) (fun fl s' hs => ?_) fun e s' hs => hs
  have fin : ∀ {σ' : St} {H' : Hp} {v : V} {u : Value}, Inv (cxOf CX P w K mg base N qual scope f cdv A outer s H E) [] σ' H' s' -> RelV v u -> Q v H' -> CE outer P w H s Q u s' :=
    fun {σ' H' v u} J rv q => ⟨v, H', J.os, J.bare, J.base, J.hok, rv, q⟩
  cases fl with
  | ret u =>
    obtain ⟨v, σ', H', J, rv, q⟩ := hs
    exact fin J rv q
  | next =>
    obtain ⟨σ', H', J, q⟩ := hs
    exact fin (v := V.non) (u := Value.none) J rfl q
  | brk =>
    obtain ⟨_, _, _, q⟩ := hs
    exact False.elim q
  | cont =>
    obtain ⟨_, _, _, q⟩ := hs
    exact False.elim q
end L2
namespace L2
open PySem PySem.Spec PyProof.Rows
section
variable {X : Cx} {x : Str} {p pos : Pos} {e : Expr} {es : List Expr} {t : TA} {id T : String} {r : List V -> Hp -> VK -> Prop}
noncomputable def tCB (r : List V -> Hp -> VK -> Prop) (t : TA) : TE := fun σ H Q => t σ H fun vs H1 => r vs H1 Q
theorem pe_callB (hc : CallR X (.builtin id) r) (hg : Gl X x) (hm : X.mg x = none) (hv : bootBuiltins x = some (.builtin id)) (ha : PA X (e :: es) t) (hn : x ≠ "__name__" := by decide) (hdb : (x == ("__debug__" : Str)) = false := by decide)
    (he : starEach (e :: es) X.env = (false, eval e X.env) :: starEach es X.env := by rfl) (hpl : (backTo pos (starEach es X.env)).any (·.1) = false := by rfl) : PE X (.Call (.Name x p) (e :: es) [] pos) (tCB r t) := by
  intro pins s σ H Q I h
  refine wpAny_Call_Name_kw (ld_blt I hg hm hv ?_ hn hdb)
  exact PyProof.Rows.callWith_builtin1 (thn (ha pos pins s σ H _ I h) fun us s1 ⟨vs, H1, I1, r1, q1⟩ => hc pins s1 σ H1 vs us Q I1 r1 q1) he hpl
theorem pe_callTy (hc : CallR X (.type T) r) (hg : Gl X x) (hm : X.mg x = none) (hv : bootBuiltins x = some (.type T)) (ha : PA X (e :: es) t) (hn : x ≠ "__name__" := by decide) (hdb : (x == ("__debug__" : Str)) = false := by decide)
    (he : starEach (e :: es) X.env = (false, eval e X.env) :: starEach es X.env := by rfl) (hpl : (backTo pos (starEach es X.env)).any (·.1) = false := by rfl) : PE X (.Call (.Name x p) (e :: es) [] pos) (tCB r t) := by
  intro pins s σ H Q I h
  refine wpAny_Call_Name_kw (ld_blt I hg hm hv ?_ hn hdb)
  exact PyProof.Rows.callWith_type1 (thn (ha pos pins s σ H _ I h) fun us s1 ⟨vs, H1, I1, r1, q1⟩ => hc pins s1 σ H1 vs us Q I1 r1 q1) he hpl
end
end L2
namespace HT
open PySem PyProof.Rows
noncomputable def lexLt : List Int -> List Int -> Bool
  | [], [] => false
  | [], _ :: _ => true
  | _ :: _, [] => false
  | x :: xs, y :: ys => if x = y then lexLt xs ys else decide (x < y)
theorem lexLt_cons (x y : Int) (xs ys : List Int) : lexLt (x :: xs) (y :: ys) = if x = y then lexLt xs ys else decide (x < y) := rfl
theorem lexLt_nil_nil : lexLt [] [] = false := rfl
theorem lexLt_nil_cons (y : Int) (ys : List Int) : lexLt [] (y :: ys) = true := rfl
theorem lexLt_cons_nil (x : Int) (xs : List Int) : lexLt (x :: xs) [] = false := rfl
theorem eqAt_int (A : Around) (s : Shared) (a : Int) (t : Tok) (c : Int) (u : Tok) : ∃ e, SeqAt.EqAt A s (.int a t) (.int c u) e /\ (e = true ↔ a = c) :=
  ⟨(a == c), SeqAt.EqAt.int_int a t c u, by simp⟩
theorem rcLt_int (A : Around) (s : Shared) (a : Int) (t : Tok) (c : Int) (u : Tok) (prog : Program) (w : World) (E : Value -> Shared -> Prop) (Q : Value -> Shared -> Prop) (h : Q (.bool (decide (a < c))) s) :
    wpAny (model prog w) A (richCompare .Lt (.int a t) (.int c u)) Q E s :=
  (PyProof.Rows.lt_int h : wpAny (model prog w) A (compareOp .Lt (.int a t) (.int c u)) Q E s)
section
open PySem.SeqAt
open PySem.AutoSeq1 (wpAny_loadPart')
open PySem.MeetsSeq PySem.MeetsSeq2 PySem.MeetsSeq3
theorem tuple_lt_ints (l b : Addr) (items items2 : Array Value) (n n2 : Nat) (dd dd2 : Option Addr) (sl sl2 : Array (Option Value)) (ns ms : List Int) (hi : IntsAre items.toList ns) (hj : IntsAre items2.toList ms) :
    Meets (Builtin.«tuple.__lt__» ⟨[.ref l, .ref b], []⟩)
      (fun _ R s => s.heap.get? l = some { cls := .type "tuple", dict := dd, data := .seq items n, slots := sl } /\ s.heap.get? b = some { cls := .type "tuple", dict := dd2, data := .seq items2 n2, slots := sl2 } /\
        R (.ok (.ret (.bool (lexLt ns ms)))) s) :=
  .of_wp fun prog w A R s h => by
    obtain ⟨hp, g, d, tk, os⟩ := s; obtain ⟨hl, hb, h⟩ := h
    have f2 := AutoSeq1.sub_tuple_tuple
    have z1 : items.size = ns.length := by rw [<- hi.length]; simp
    have z2 : items2.size = ms.length := by rw [<- hj.length]; simp
    wp_walk using wpAny_loadPart' hl, wpAny_loadPart' hb, wpAny_forIn_list _ (fun rest b s' => b.1 = none /\ s' = ⟨hp, g, d, tk, os⟩ /\ ∃ (vs ws : List Value) (ns' ms' : List Int), rest = vs.zip ws /\
      IntsAre vs ns' /\ IntsAre ws ms' /\ ns'.length + items2.size = ms'.length + items.size /\ R (.ok (.ret (.bool (lexLt ns' ms')))) ⟨hp, g, d, tk, os⟩) _
    case turn =>
      rintro ⟨y, x⟩ rest b s' ⟨hb', rfl, vs, ws, ns', ms', hz, hvi, hwi, hlen, hR⟩
      cases hvi with
      | nil => rw [List.zip_nil_left] at hz; cases hz
      | cons a t hvi' =>
        cases hwi with
        | nil => rw [List.zip_nil_right] at hz; cases hz
        | cons c u hwi' =>
          rw [List.zip_cons_cons] at hz
          injection hz with hyx hrest
          injection hyx with hy hx
          subst hy hx
          rw [lexLt_cons] at hR
          simp only [List.length_cons] at hlen
          obtain ⟨e, he, hiff⟩ := eqAt_int A.in1 ⟨hp, g, d, tk, os⟩ a t c u
          refine wpAny_bind (he prog w _ _ ?_)
          cases e with
          | true =>
            rw [if_pos (hiff.mp rfl)] at hR
            wp_walk
            exact ⟨rfl, rfl, _, _, _, _, hrest, hvi', hwi', by omega, hR⟩
          | false =>
            rw [if_neg (fun q => absurd (hiff.mpr q) Bool.false_ne_true)] at hR
            have hri := rcLt_int A.in1 ⟨hp, g, d, tk, os⟩ a t c u prog w
            wp_walk using hri
            exact ⟨_, rfl, by simpa using hR⟩
    case fin =>
      rintro ⟨b1, b2⟩ s' ⟨hb', rfl, vs, ws, ns', ms', hz, hvi, hwi, hlen, hR⟩
      simp only at hb'
      subst hb'
      have hv : lexLt ns' ms' = decide (items.size < items2.size) := by
        cases hvi with
        | nil =>
          cases hwi with
          | nil =>
            simp only [List.length_nil] at hlen
            rw [lexLt_nil_nil]
            exact (decide_eq_false (by omega)).symm
          | cons c u hw =>
            simp only [List.length_nil, List.length_cons] at hlen
            rw [lexLt_nil_cons]
            exact (decide_eq_true (by omega)).symm
        | cons a t hv =>
          cases hwi with
          | nil =>
            simp only [List.length_nil, List.length_cons] at hlen
            rw [lexLt_cons_nil]
            exact (decide_eq_false (by omega)).symm
          | cons c u hw =>
            rw [List.zip_cons_cons] at hz
            cases hz
      rw [hv] at hR
      wp_walk
      exact ⟨_, rfl, by simpa [Builtin.Tuple.tupleCompareSizes] using hR⟩
    case h =>
      exact ⟨rfl, rfl, items.toList, items2.toList, ns, ms, rfl, hi, hj, by omega, h⟩
end
section
variable {prog : Program} {w : World} {A : Around} {E : Value -> Shared -> Prop} {s : Shared}
theorem lt_tupInts {l b : Addr} {items items2 : Array Value} {ns ms : List Int} {Q : Value -> Shared -> Prop} (hl : IsTup s.heap l items) (hb : IsTup s.heap b items2) (hi : IntsAre items.toList ns) (hj : IntsAre items2.toList ms)
    (hu : A.units < cLine) (h : Q (.bool (lexLt ns ms)) s) : wpAny (model prog w) A (compareOp .Lt (.ref l) (.ref b)) Q E s := by
  obtain ⟨⟨cls, dd, data, sl⟩, ho, hc, n, hd⟩ := id hl
  obtain ⟨⟨cls2, dd2, data2, sl2⟩, ho2, hc2, n2, hd2⟩ := id hb
  simp only at hc hd hc2 hd2
  subst hc hd hc2 hd2
  exact richCompare_meets_room (op := .Lt) ⟨_, ho, rfl⟩ ⟨_, ho2, rfl⟩ PySem.F.slot_tuple_lt PySem.F.entry_tuple_lt (PySem.F.args_tuple_lt_2 _ _) (tuple_lt_ints l b items items2 n n2 dd dd2 sl sl2 ns ms hi hj)
    ⟨ho, ho2, show Value.bool (lexLt ns ms) ≠ Value.notImplemented /\ Q (.bool (lexLt ns ms)) s from ⟨(fun x => nomatch x), h⟩⟩ hu
theorem cat_tup {t b : Addr} {vs ws : List Value} {Q : Value -> Shared -> Prop} (ht : IsTup s.heap t vs.toArray) (hb : IsTup s.heap b ws.toArray) (hv : vs ≠ [])
    (h1 : ws = [] -> Q (.ref t) s) (h2 : ws ≠ [] -> Q (.ref s.heap.objs.size) { s with heap := s.heap.push { cls := .type "tuple", data := .seq (vs ++ ws).toArray } })
    (hsz : vs.length + ws.length <= sizeLine) : wpAny (model prog w) A (binaryOp .Add (.ref t) (.ref b)) Q E s := by
  obtain ⟨⟨cls, dd, data, sl⟩, ho, hc, n, hd⟩ := id ht
  obtain ⟨⟨cls2, dd2, data2, sl2⟩, ho2, hc2, n2, hd2⟩ := id hb
  simp only at hc hd hc2 hd2
  subst hc hd hc2 hd2
  have e : vs.toArray ++ ws.toArray = (vs ++ ws).toArray := by simp
  by_cases hw : ws = []
  . exact concat_meets ⟨_, ho, rfl⟩ ⟨_, ho2, rfl⟩ noFill_tuple_add seq_tuple_add PySem.F.slot_tuple_add PySem.F.entry_tuple_add (PySem.F.args_tuple_add_2 _ _)
      (tuple_addW1 t b vs.toArray ws.toArray n n2 dd dd2 sl sl2 (by simpa using hv) (by simp [hw])) ⟨ho, ho2, h1 hw⟩
  . refine concat_meets ⟨_, ho, rfl⟩ ⟨_, ho2, rfl⟩ noFill_tuple_add seq_tuple_add PySem.F.slot_tuple_add PySem.F.entry_tuple_add (PySem.F.args_tuple_add_2 _ _)
      (tuple_addW2 t b vs.toArray ws.toArray n n2 dd dd2 sl sl2 (by simpa using hv) (by simpa using hw) (by rw [List.size_toArray, List.size_toArray]; exact hsz)) ⟨ho, ho2, ?_⟩
    rw [e]
    exact h2 hw
noncomputable def sIx (n d : Nat) : Option Int -> Nat
  | none => d
  | some v => if v < 0 then (v + (n : Int)).toNat else min v.toNat n
theorem sIx_le (n d : Nat) (hd : d <= n) (o : Option Int) : sIx n d o <= n := by
  cases o with
  | none => exact hd
  | some v =>
    show (if v < 0 then (v + (n : Int)).toNat else min v.toNat n) <= n
    by_cases hv : v < 0
    . rw [if_pos hv]; omega
    . rw [if_neg hv]; exact Nat.min_le_right _ _
theorem clip_ofmin (a b : Nat) : ((min a b : Nat) : Int) = min (a : Int) (b : Int) := by
  rcases Nat.le_total a b with h | h
  . rw [Nat.min_eq_left h, Int.min_eq_left (Int.ofNat_le.mpr h)]
  . rw [Nat.min_eq_right h, Int.min_eq_right (Int.ofNat_le.mpr h)]
theorem clip_two (i : Int) (n d : Nat) : max 0 (min (if i < 0 then i + (n : Int) else i) (n : Int)) = ((HT.sIx n d (some i) : Nat) : Int) := by
  show _ = (((if i < 0 then (i + (n : Int)).toNat else min i.toNat n) : Nat) : Int)
  by_cases hv : i < 0
  . rw [if_pos hv, if_pos hv, Int.toNat_eq_max, Int.min_eq_left (by omega), Int.max_comm]
  . rw [if_neg hv, if_neg hv, clip_ofmin, Int.toNat_of_nonneg (Int.not_lt.mp hv), Int.max_eq_right]
    exact Int.le_min.mpr ⟨Int.not_lt.mp hv, Int.natCast_nonneg n⟩
theorem clip_eq (v : Int) (n d : Nat) : (if v < 0 then max (v + (n : Int)) 0 else min v (n : Int)) = ((sIx n d (some v) : Nat) : Int) := by
  show (if v < 0 then max (v + (n : Int)) 0 else min v (n : Int)) = (((if v < 0 then (v + (n : Int)).toNat else min v.toNat n) : Nat) : Int)
  by_cases hv : v < 0
  . rw [if_pos hv, if_pos hv, Int.toNat_eq_max]
  . rw [if_neg hv, if_neg hv, clip_ofmin, Int.toNat_of_nonneg (Int.not_lt.mp hv)]
theorem adjust_gen (lo hi : Option Int) (n : Nat) : Builtin.Slice.sliceAdjust lo hi 1 (n : Int) = (((sIx n 0 lo : Nat) : Int), ((sIx n n hi : Nat) : Int)) := by
  have h1 : ¬ ((1 : Int) < 0) := by omega
  unfold Builtin.Slice.sliceAdjust
  simp only [h1, if_false]
  refine Prod.ext ?_ ?_
  . cases lo with
    | none => rfl
    | some v => exact clip_eq v n 0
  . cases hi with
    | none => rfl
    | some v => exact clip_eq v n n
theorem places_gen (i j : Nat) : Builtin.Slice.slicePlaces (i : Int) (j : Int) 1 = j - i := by
  unfold Builtin.Slice.slicePlaces
  have h1 : (1 : Int) > 0 := by omega
  simp only [h1, if_true, Int.ediv_one]
  split <;> omega
theorem slicePart_ {v : Value} {o : Option Int} {Q : Option Int -> Shared -> Prop} (p : IsPart v o) (h : Q o s) : wpAny (model prog w) A (Builtin.Slice.slicePartIndex v) Q E s := by
  cases p with
  | none => exact slicePart_none h
  | int i t => exact slicePart_int h
theorem sliceApplied_gen {sl : Addr} {vl vu : Value} {lo hi : Option Int} {n : Nat} {Q : Int × Int × Nat -> Shared -> Prop} (hs : s.heap.IsSliceOf sl vl vu .none) (pl : IsPart vl lo) (pu : IsPart vu hi)
    (h : Q (((sIx n 0 lo : Nat) : Int), 1, sIx n n hi - sIx n 0 lo) s) : wpAny (model prog w) A (Builtin.Slice.sliceApplied (.ref sl) (pure (n : Int))) Q E s := by
  obtain ⟨os, hos, hcs, hds⟩ := id hs
  unfold Builtin.Slice.sliceApplied Builtin.Slice.sliceFields
  refine wpAny_bind (wpAny_bind (wpAny_field hos hds (x := vl) rfl (wpAny_bind (wpAny_field hos hds (x := vu) rfl (wpAny_bind (wpAny_field hos hds (x := .none) rfl (wpAny_pure ?_)))))))
  refine wpAny_bind (slicePart_none ?_)
  show wpAny _ _ (if ((1 : Int) == 0) = true then _ else _) _ _ s
  rw [if_neg (by decide)]
  refine wpAny_bind (slicePart_ pl (wpAny_bind (slicePart_ pu (wpAny_bind (wpAny_pure ?_)))))
  show wpAny _ _ (match Builtin.Slice.sliceAdjust lo hi 1 (n : Int) with | (lo, hi) => pure (lo, (1 : Int), Builtin.Slice.slicePlaces lo hi 1)) _ _ s
  rw [adjust_gen lo hi n]
  show wpAny _ _ (pure (((sIx n 0 lo : Nat) : Int), (1 : Int), Builtin.Slice.slicePlaces ((sIx n 0 lo : Nat) : Int) ((sIx n n hi : Nat) : Int) 1)) _ _ s
  rw [places_gen]
  exact wpAny_pure h
theorem pick_gen (xs : Array Value) (i k : Nat) : ((List.range k).filterMap fun (m : Nat) => xs[((i : Int) + (m : Int) * 1).toNat]?).toArray = ((xs.toList.drop i).take k).toArray := by
  have e : (fun (m : Nat) => xs[((i : Int) + (m : Int) * 1).toNat]?) = fun m => xs[i + m]? := by
    funext m
    have : ((i : Int) + (m : Int) * 1).toNat = i + m := by omega
    rw [this]
  rw [e]
  have := pick_run xs i k
  rw [List.filterMap_map] at this
  have e2 : ((fun x => xs[x]?) ∘ fun x => i + x) = fun m => xs[i + m]? := rfl
  rw [e2] at this
  rw [this]
theorem getItem_tuple_cut {t sl : Addr} {items : Array Value} {vl vu : Value} {lo hi : Option Int} {Q : Value -> Shared -> Prop} (ht : IsTup s.heap t items) (hs : s.heap.IsSliceOf sl vl vu .none) (pl : IsPart vl lo) (pu : IsPart vu hi)
    (hw : ¬ (sIx items.size 0 lo = 0 /\ sIx items.size items.size hi = items.size))
    (h : Q (.ref s.heap.objs.size) { s with heap := s.heap.push { cls := .type "tuple", data := .seq ((items.toList.drop (sIx items.size 0 lo)).take (sIx items.size items.size hi - sIx items.size 0 lo)).toArray } })
    (hsz : items.size <= sizeLine) : wpAny (model prog w) A (getItem (.ref t) (.ref sl)) Q E s := by
  have htake : sizeOk (.seq ((items.toList.drop (sIx items.size 0 lo)).take (sIx items.size items.size hi - sIx items.size 0 lo)).toArray) := by
    show ((items.toList.drop (sIx items.size 0 lo)).take (sIx items.size items.size hi - sIx items.size 0 lo)).toArray.size <= sizeLine
    rw [List.size_toArray, List.length_take, List.length_drop, Array.length_toList]
    omega
  have hj : sIx items.size items.size hi <= items.size := sIx_le _ _ (Nat.le_refl _) hi
  obtain ⟨os, hos, hcs, hds⟩ := id hs
  have hTs : s.TypeIs (.ref sl) "slice" := ⟨os, hos, hcs⟩
  unfold getItem
  try with_reducible refine wpAny_holding ?_
  first | refine wpAny_bind (wpAny_pure ?_) | skip
  refine wpAny_bind (wpAny_sequenceKey ht.typeIs (by decide) ?_)
  refine wpAny_bind (wpAny_callSpecial?_slot (name := Str.ofString "__getitem__") ht.typeIs PyProof.Rows.slot_tuple_getitem
    (wpAny_call_entry PyProof.Rows.slot_tuple_getitem ht.typeIs entry_tuple_getitem ?_ (args_tuple_getitem _ _)))
  show wpAny _ _ (Builtin.Tuple.tupleItemsOf (.ref t) >>= _) _ _ s
  refine wpAny_bind (tupleItemsOf_ ht ?_)
  refine wpAny_bind (wpAny_typeOf hTs ?_)
  rw [if_pos (by decide)]
  refine wpAny_bind (sliceApplied_gen hs pl pu ?_)
  have hno : ¬ ((((sIx items.size 0 lo : Nat) : Int) == 0 && (1 : Int) == 1 && (sIx items.size items.size hi - sIx items.size 0 lo) == items.size) = true) := by
    intro q
    rw [Bool.and_eq_true, Bool.and_eq_true] at q
    have q1 : ((sIx items.size 0 lo : Nat) : Int) = 0 := eq_of_beq q.1.1
    have q2 : sIx items.size items.size hi - sIx items.size 0 lo = items.size := eq_of_beq q.2
    exact hw ⟨by omega, by omega⟩
  show wpAny _ _ (if (((sIx items.size 0 lo : Nat) : Int) == 0 && (1 : Int) == 1 && (sIx items.size items.size hi - sIx items.size 0 lo) == items.size) = true then _ else _) _ _ s
  rw [if_neg hno, pick_gen]
  first
    | exact wpAny_bind (m := Builtin.Tuple.tupleExact _) (wpAny_newObj_type (wpAny_pure ⟨_, rfl, wpAny_pure h⟩) htake)
    | exact wpAny_bind (m := Builtin.Tuple.tupleExact _) (wpAny_newObj_type (wpAny_bind (wpAny_pure (wpAny_pure ⟨_, rfl, wpAny_pure h⟩))) htake)
    | exact wpAny_bind (wpAny_bind (m := Builtin.Tuple.tupleExact _) (wpAny_newObj_type (wpAny_pure (wpAny_pure ⟨_, rfl, wpAny_pure h⟩)) htake))
    | exact wpAny_bind (wpAny_bind (m := Builtin.Tuple.tupleExact _) (wpAny_newObj_type (wpAny_pure ⟨_, rfl, wpAny_pure h⟩) htake))
end
end HT
namespace L2
open PySem PySem.Spec PyProof.Rows
noncomputable abbrev TO := St -> Hp -> (Option Int -> Hp -> Prop) -> Prop
noncomputable def PO (X : Cx) (e : Option Expr) (t : TO) : Prop :=
  ∀ (pins : List (Addr × Obj)) (s : Shared) (σ : St) (H : Hp) (Q : Option Int -> Hp -> Prop), Inv X pins σ H s -> t σ H Q ->
    wpAny (model X.prog X.w) X.A (evalPart e X.env) (fun u s' => ∃ o H', Inv X pins σ H' s' /\ IsPart u o /\ Q o H') X.xe s
noncomputable def tNoPart : TO := fun _ H Q => Q none H
noncomputable def tPart (t : TE) : TO := fun σ H Q => t σ H fun x H1 => ∃ i, x = .int i /\ Q (some i) H1
theorem intsAre_of {ns : List Int} : ∀ {us : List Value}, Vals (ns.map V.int) us -> IntsAre us ns := by
  induction ns with
  | nil => intro us r; rw [List.map_nil] at r; cases r; exact .nil
  | cons n ns ih =>
    intro us r
    rw [List.map_cons] at r
    cases r with
    | cons r1 r2 =>
      obtain ⟨t, e⟩ := r1
      subst e
      exact .cons n t (ih r2)
section
variable {X : Cx} {e : Expr} {te : TE} {lo hi : Option Expr} {tl th : TO} {pos p2 : Pos}
theorem po_none : PO X none tNoPart := by
  intro pins s σ H Q I h
  rw [evalPart_none]
  exact wpAny_pure ⟨none, H, I, .none, h⟩
theorem po_some (h : PE X e te) : PO X (some e) (tPart te) := by
  intro pins s σ H Q I hw
  rw [evalPart_some]
  refine thn (h pins s σ H _ I hw) fun u s1 ⟨x, H1, I1, r1, q1⟩ => ?_
  obtain ⟨i, rfl, q⟩ := q1
  obtain ⟨t, rfl⟩ := r1
  exact ⟨some i, H1, I1, .int i t, q⟩
noncomputable def SlR (X : Cx) (r : V -> Option Int -> Option Int -> Hp -> VK -> Prop) : Prop :=
  ∀ (pins : List (Addr × Obj)) (s : Shared) (σ : St) (H : Hp) (x : V) (v vl vu : Value) (lo hi : Option Int) (sl : Addr) (Q : VK), Inv X pins σ H s -> RelV x v -> s.heap.IsSliceOf sl vl vu .none -> IsPart vl lo -> IsPart vu hi -> r x lo hi H Q ->
    ∃ T id, typeLookup (.type T) "__getitem__" = pure (some (.builtin id)) /\ s.TypeIs v T /\ wpAny (model X.prog X.w) X.A (getItem v (.ref sl)) (EP X pins σ Q) X.xe s
noncomputable def tSl (r : V -> Option Int -> Option Int -> Hp -> VK -> Prop) (te : TE) (tl th : TO) : TE := fun σ H Q => te σ H fun x H1 => tl σ H1 fun l H2 => th σ H2 fun u H3 => r x l u H3 Q
theorem pe_slice {r : V -> Option Int -> Option Int -> Hp -> VK -> Prop} (hr : SlR X r) (he : PE X e te) (hl : PO X lo tl) (hu : PO X hi th) : PE X (.Subscript e (.Slice lo hi none p2) pos) (tSl r te tl th) := by
  intro pins s σ H Q I h
  refine Subscript_ (thn (he pins s σ H _ I h) fun v s1 ⟨x, H1, I1, r1, q1⟩ => ?_)
  refine wpAny_Slice (thn (hl pins s1 σ H1 _ I1 q1) fun vl s2 ⟨l, H2, I2, pl, q2⟩ => thn (hu pins s2 σ H2 _ I2 q2) fun vu s3 ⟨u, H3, I3, pu, q3⟩ => ?_)
  rw [evalPart_none]
  refine wpAny_pure ?_
  have I4 : Inv X pins σ H3 { s3 with heap := s3.heap.push { cls := .type "slice", data := .fields #[vl, vu, .none] } } := I3.kept (t' := s3.toks) fun b ob q => Heap.get?_push_of_some _ q
  obtain ⟨T, id, hT, ht, hg⟩ := hr pins { s3 with heap := s3.heap.push { cls := .type "slice", data := .fields #[vl, vu, .none] } } σ H3 x v vl vu l u s3.heap.objs.size Q I4 r1 (Heap.IsSliceOf.new ..) pl pu q3
  show wpAny (model X.prog X.w) X.A (subscriptTail e (.Slice lo hi none p2) v (.ref s3.heap.objs.size)) (EP X pins σ Q) X.xe { s3 with heap := s3.heap.push { cls := .type "slice", data := .fields #[vl, vu, .none] } }
  exact tail_any (ops := [.ref s3.heap.objs.size, v]) ht hT hg (by with_unfolding_all rfl)
noncomputable def cutV (xs : List V) (lo hi : Option Int) : List V := (xs.drop (HT.sIx xs.length 0 lo)).take (HT.sIx xs.length xs.length hi - HT.sIx xs.length 0 lo)
theorem cutV_length (xs : List V) (lo hi : Option Int) : (cutV xs lo hi).length <= xs.length := by
  unfold cutV
  rw [List.length_take, List.length_drop]
  omega
noncomputable def rSlT (K : PySem.W.Frag) : V -> Option Int -> Option Int -> Hp -> VK -> Prop := fun x lo hi H Q => ∃ a xs, x = .ref a /\ SqT K H a xs /\
  ¬ (HT.sIx xs.length 0 lo = 0 /\ HT.sIx xs.length xs.length hi = xs.length) /\ ∀ p, H p = none -> Q (.ref p) (upd H p (.tup (cutV xs lo hi)))
theorem sl_tup : SlR X (rSlT X.K) := by
  intro pins s σ H x v vl vu lo hi sl Q I rx hs pl pu h
  obtain ⟨a, xs, rfl, hx, hw, q⟩ := h
  cases rx
  obtain ⟨its, r, ht, hz⟩ := I.tuple hx
  have hlen : its.toArray.size = xs.length := by rw [List.size_toArray]; exact r.length.symm
  refine ⟨"tuple", _, PyProof.Rows.slot_tuple_getitem.lookup, ht.typeIs, ?_⟩
  refine HT.getItem_tuple_cut ht hs pl pu (by rw [hlen]; exact hw) ?_ (by rw [hlen]; exact hz)
  rw [hlen]
  refine ⟨.ref s.heap.objs.size, _, I.laid (t' := s.toks) (o := .tup (cutV xs lo hi)) (fun b ob q => Heap.get?_push_of_some _ q) (Nat.le_refl _) ?_, rfl, q _ (I.hok.fresh (Nat.le_refl _))⟩
  exact ⟨Nat.le_trans (cutV_length xs lo hi) hz, _, (r.drop (HT.sIx xs.length 0 lo)).take (HT.sIx xs.length xs.length hi - HT.sIx xs.length 0 lo), IsTup.new _ _⟩
noncomputable def rLtT (K : PySem.W.Frag) : R2 := fun x y H Q => ∃ a b ns ms, x = .ref a /\ y = .ref b /\ SqT K H a (ns.map V.int) /\ SqT K H b (ms.map V.int) /\ Q (.bl (HT.lexLt ns ms)) H
theorem op_ltT (hu : X.A.units < cLine) : OpR X (compareOp .Lt) (rLtT X.K) := by
  intro pins s σ H x y v u Q I rx ry h
  obtain ⟨a, b, ns, ms, rfl, rfl, ha, hb, q⟩ := h
  cases rx
  cases ry
  obtain ⟨its, r1, p1, _⟩ := I.tuple ha
  obtain ⟨its2, r2, p2, _⟩ := I.tuple hb
  have i1 : IntsAre its.toArray.toList ns := intsAre_of r1
  have i2 : IntsAre its2.toArray.toList ms := intsAre_of r2
  exact HT.lt_tupInts p1 p2 i1 i2 hu ⟨.bl (HT.lexLt ns ms), H, I, rfl, q⟩
noncomputable def rCatT (K : PySem.W.Frag) : R2 := fun x y H Q => ∃ a b xs ys, x = .ref a /\ y = .ref b /\ SqT K H a xs /\ SqT K H b ys /\ xs ≠ [] /\ xs.length + ys.length <= sizeLine /\
  (ys = [] -> Q (.ref a) H) /\ (ys ≠ [] -> ∀ p, H p = none -> Q (.ref p) (upd H p (.tup (xs ++ ys))))
theorem Vals.nil_iff {xs : List V} {us : List Value} (r : Vals xs us) : us = [] ↔ xs = [] := by
  cases r with
  | nil => simp
  | cons _ _ => simp
theorem op_catT : OpR X (binaryOp .Add) (rCatT X.K) := by
  intro pins s σ H x y v u Q I rx ry h
  obtain ⟨a, b, xs, ys, rfl, rfl, ha, hb, hx, hz, q1, q2⟩ := h
  cases rx
  cases ry
  obtain ⟨its, r1, p1, _⟩ := I.tuple ha
  obtain ⟨its2, r2, p2, _⟩ := I.tuple hb
  refine HT.cat_tup p1 p2 (fun z => hx (r1.nil_iff.mp z)) (fun z => ⟨.ref a, H, I, rfl, q1 (r2.nil_iff.mp z)⟩) (fun z => ?_) (by rw [<- r1.length, <- r2.length]; exact hz)
  refine ⟨.ref s.heap.objs.size, _, I.laid (t' := s.toks) (o := .tup (xs ++ ys)) (fun b ob q => Heap.get?_push_of_some _ q) (Nat.le_refl _) ?_, rfl, q2 (fun w => z (r2.nil_iff.mpr w)) _ (I.hok.fresh (Nat.le_refl _))⟩
  exact ⟨by rw [List.length_append]; exact hz, _, r1.append r2, IsTup.new _ _⟩
end
end L2
namespace L2
open PySem PySem.Spec PyProof.Rows
noncomputable def ixN (n : Nat) (i : Int) : Option Nat := if 0 <= i then (if i < n then some i.toNat else none) else if -(n : Int) <= i then some (i + n).toNat else none
noncomputable def atI {α : Type} (xs : List α) (i : Int) : Option α := (ixN xs.length i).bind fun j => xs[j]?
theorem ixN_seq {n : Nat} {i : Int} {j : Nat} (h : ixN n i = some j) : seqIndex? i n = some j /\ j < n /\ -(n : Int) <= i /\ i < n := by
  unfold ixN at h
  by_cases h0 : 0 <= i
  . rw [if_pos h0] at h
    by_cases h1 : i < n
    . rw [if_pos h1] at h
      have e : i.toNat = j := Option.some.inj h
      exact ⟨by rw [seqIndex_of h0 h1, e], by omega, by omega, h1⟩
    . rw [if_neg h1] at h; cases h
  . rw [if_neg h0] at h
    by_cases h1 : -(n : Int) <= i
    . rw [if_pos h1] at h
      have e : (i + n).toNat = j := Option.some.inj h
      exact ⟨by rw [seqIndex_neg (by omega) h1, e], by omega, h1, by omega⟩
    . rw [if_neg h1] at h; cases h
theorem atI_get {α : Type} {xs : List α} {i : Int} {v : α} (h : atI xs i = some v) : ∃ j, seqIndex? i xs.length = some j /\ xs[j]? = some v /\ j < xs.length /\ -(xs.length : Int) <= i /\ i < xs.length := by
  unfold atI at h
  cases e : ixN xs.length i with
  | none => rw [e] at h; cases h
  | some j =>
    rw [e] at h
    obtain ⟨h1, h2, h3, h4⟩ := ixN_seq e
    exact ⟨j, h1, h, h2, h3, h4⟩
theorem atI_nat {α : Type} {xs : List α} {j : Nat} {v : α} (h : xs[j]? = some v) : atI xs (j : Int) = some v := by
  have hj : j < xs.length := (List.getElem?_eq_some_iff.mp h).1
  have e : ixN xs.length (j : Int) = some j := by
    unfold ixN
    rw [if_pos (by omega), if_pos (by omega)]; simp
  unfold atI; rw [e]; exact h
noncomputable def PlainIx (b : Expr) : Prop := ∀ o i, subscripted b false o i = operate [o, i] (getItem o i)
noncomputable def IxR (X : Cx) (r : R2) : Prop :=
  ∀ (value slice : Expr) (pins : List (Addr × Obj)) (s : Shared) (σ : St) (H : Hp) (x y : V) (v u : Value) (Q : VK), Inv X pins σ H s -> RelV x v -> RelV y u -> r x y H Q ->
    subscripted slice false v u = operate [v, u] (getItem v u) -> wpAny (model X.prog X.w) X.A (subscriptTail value slice v u) (EP X pins σ Q) X.xe s
noncomputable def MtR (X : Cx) (id : String) (r : V -> List V -> Hp -> VK -> Prop) : Prop :=
  ∀ (pins : List (Addr × Obj)) (s : Shared) (σ : St) (H : Hp) (x : V) (xs : List V) (v : Value) (us : List Value) (Q : VK), Inv X pins σ H s -> RelV x v -> Vals xs us -> r x xs H Q ->
    wpAny (model X.prog X.w) X.A (call (.builtin id) (v :: us)) (EP X pins σ Q) X.xe s
section
variable {X : Cx} {a b : Expr} {ta tb : TE} {pos : Pos}
theorem IxR.or {r r' : R2} (h : IxR X r) (h' : IxR X r') : IxR X (fun x y H Q => r x y H Q \/ r' x y H Q) := by
  intro value slice pins s σ H x y v u Q I rx ry q hs
  rcases q with q | q
  . exact h value slice pins s σ H x y v u Q I rx ry q hs
  . exact h' value slice pins s σ H x y v u Q I rx ry q hs
theorem pe_ix {r : R2} (hr : IxR X r) (ha : PE X a ta) (hb : PE X b tb) (hs : PlainIx b) : PE X (.Subscript a b pos) (tOp r ta tb) := by
  intro pins s σ H Q I h
  exact Subscript_ (binT ha hb I h fun v u s2 x y H2 I2 rx ry q => hr a b pins s2 σ H2 x y v u Q I2 rx ry q (hs _ _))
noncomputable def rIxL (K : PySem.W.Frag) : R2 := fun x y H Q => ∃ p xs i v, x = .ref p /\ y = .int i /\ SqL K H p xs /\ atI xs i = some v /\ Q v H
noncomputable def rIxT (K : PySem.W.Frag) : R2 := fun x y H Q => ∃ p xs i v, x = .ref p /\ y = .int i /\ SqT K H p xs /\ atI xs i = some v /\ Q v H
theorem ix_list : IxR X (rIxL X.K) := by
  intro value slice pins s σ H x y v u Q I rx ry h hs
  obtain ⟨p, xs, i, z, rfl, rfl, hq, he, q⟩ := h
  cases rx
  obtain ⟨t, rfl⟩ := ry
  obtain ⟨its, r, pl, hz⟩ := I.list hq
  obtain ⟨j, h1, h2, h3, h4, h5⟩ := atI_get he
  obtain ⟨w, ew, rw'⟩ := r.get h2
  have hl := r.length
  have hn := line63
  have fin : EP X pins σ Q w s := ⟨z, H, I, rw', q⟩
  by_cases h0 : 0 <= i
  . have hj : i.toNat = j := by
      rw [seqIndex_of h0 h5] at h1
      exact Option.some.inj h1
    exact item_listR pl.isList h0 (by omega) (by rw [hj]; simpa using ew) fin hs
  . have hj : (i + (its.toArray.size : Int)).toNat = j := by
      rw [seqIndex_neg (by omega) h4] at h1
      rw [List.size_toArray, <- hl]
      exact Option.some.inj h1
    exact subscriptTail_builtinR (x := w) pl.isList.typeIs slot_list_getitem.lookup
      (wpAny_getItem_list_neg (Q := fun r s' => r = w /\ EP X pins σ Q r s') pl.isList (by omega) (by rw [List.size_toArray] <;> omega) (by omega) (by rw [hj]; simpa using ew) ⟨rfl, fin⟩) hs
theorem ix_tup : IxR X (rIxT X.K) := by
  intro value slice pins s σ H x y v u Q I rx ry h hs
  obtain ⟨p, xs, i, z, rfl, rfl, hq, he, q⟩ := h
  cases rx
  obtain ⟨t, rfl⟩ := ry
  obtain ⟨its, r, pl, hz⟩ := I.tuple hq
  obtain ⟨j, h1, h2, h3, h4, h5⟩ := atI_get he
  obtain ⟨w, ew, rw'⟩ := r.get h2
  have hl := r.length
  have hn := line63
  have fin : EP X pins σ Q w s := ⟨z, H, I, rw', q⟩
  exact subscriptTail_builtinR (x := w) pl.typeIs slot_tuple_getitem.lookup
    (getItem_tuple (j := j) (Q := fun r s' => r = w /\ EP X pins σ Q r s') pl (by omega) (by omega) (by rw [List.size_toArray, <- hl]; exact h1) (by simpa using ew) ⟨rfl, fin⟩) hs
theorem mapSeq_set (its : List Value) (n j : Nat) (u : Value) : Obj.mapSeq (·.setIfInBounds j u) { cls := .type "list", data := .seq its.toArray n } = { cls := .type "list", data := .seq (its.set j u).toArray n } := by
  simp [Obj.mapSeq]
theorem Inv.lst {pins : List (Addr × Obj)} {σ : St} {H : Hp} {s : Shared} {p : Addr} {xs : List V} (I : Inv X pins σ H s) (h : H p = some (.lst xs)) :
    ∃ (its : List Value) (n : Nat), Vals xs its /\ s.heap.get? p = some { cls := .type "list", data := .seq its.toArray n } /\ xs.length <= sizeLine := by
  obtain ⟨z, its, n, r, e⟩ := I.hok p _ h
  exact ⟨its, n, r, e, z⟩
theorem Inv.lstUpd {pins : List (Addr × Obj)} {σ : St} {H : Hp} {s : Shared} {p : Addr} {xs ys : List V} {its its' : List Value} {n n' : Nat} {f : Obj -> Obj} (I : Inv X pins σ H s) (h : H p = some (.lst xs))
    (ho : s.heap.get? p = some { cls := .type "list", data := .seq its.toArray n }) (hf : f { cls := .type "list", data := .seq its.toArray n } = { cls := .type "list", data := .seq its'.toArray n' }) (r : Vals ys its') (hz : ys.length <= sizeLine) (t : Nat) :
    Inv X pins σ (upd H p (.lst ys)) { s with heap := s.heap.update p f, toks := t } := by
  have e : (s.heap.update p f).get? p = some { cls := .type "list", data := .seq its'.toArray n' } := by
    rw [Heap.get?_update_self f ho (by rw [hf] <;> rfl), hf]
  refine I.write (x := p) (e := p) (by rw [h]; trivial) (.inl rfl) (fun b u hb q => (Heap.get?_update_other _ _ (Ne.symm hb)).trans q) ⟨_, e⟩ ?_
  exact ⟨hz, its', n', r, e⟩
noncomputable def rSetL : V -> V -> V -> Hp -> (Hp -> Prop) -> Prop := fun o i v H Q => ∃ p xs k j, o = .ref p /\ i = .int k /\ H p = some (.lst xs) /\ ixN xs.length k = some j /\ Q (upd H p (.lst (xs.set j v)))
theorem set_list : PSet X rSetL := by
  intro pins s σ H o i v ov iv u Q I ro ri rv h
  obtain ⟨p, xs, k, j, rfl, rfl, hp, hj, q⟩ := h
  cases ro
  obtain ⟨t, rfl⟩ := ri
  obtain ⟨its, n, r, ho, hz⟩ := I.lst hp
  obtain ⟨h1, h2, h3, h4⟩ := ixN_seq hj
  have hl := r.length
  have hn := line63
  have I' : Inv X pins σ (upd H p (.lst (xs.set j v))) { s with heap := s.heap.update p (Obj.mapSeq (·.setIfInBounds j u)) } :=
    I.lstUpd hp ho (mapSeq_set its n j u) (r.set rv j) (by rw [List.length_set]; exact hz) s.toks
  by_cases h0 : 0 <= k
  . have hk : k.toNat = j := by
      rw [seqIndex_of h0 h4] at h1
      exact Option.some.inj h1
    exact PySem.W.ki_setAt ho h0 (by omega) (by rw [List.size_toArray, <- hl]; exact h4) (by rw [hk]; exact ⟨_, I', q⟩)
  . have hk : (k + (its.toArray.size : Int)).toNat = j := by
      rw [seqIndex_neg (by omega) h3] at h1
      rw [List.size_toArray, <- hl]
      exact Option.some.inj h1
    exact PySem.W.ki_setBack ho (by omega) (by rw [List.size_toArray, <- hl]; exact h3) (by omega) (by rw [hk]; exact ⟨_, I', q⟩)
theorem slice_bounds (lo hi : Option Int) (n : Nat) : (sliceBounds lo hi none n).1 = ((HT.sIx n 0 lo : Nat) : Int) /\ (sliceBounds lo hi none n).2.1 = ((HT.sIx n n hi : Nat) : Int) /\ (sliceBounds lo hi none n).2.2 = 1 := by
  refine ⟨?_, ?_, rfl⟩
  . cases lo with
    | none => rfl
    | some i => exact HT.clip_two i n 0
  . cases hi with
    | none => rfl
    | some i => exact HT.clip_two i n n
theorem slicePick_cut (its : List Value) (lo hi : Option Int) : slicePick its.toArray lo hi none = ((its.drop (HT.sIx its.length 0 lo)).take (HT.sIx its.length its.length hi - HT.sIx its.length 0 lo)).toArray := by
  obtain ⟨h1, h2, h3⟩ := slice_bounds lo hi its.toArray.size
  unfold slicePick
  rw [h1, h2, h3]
  simp only [sliceRange_one, pick_run, List.size_toArray] <;> rfl
noncomputable def rSlL (K : PySem.W.Frag) : V -> Option Int -> Option Int -> Hp -> VK -> Prop := fun x lo hi H Q => ∃ a xs, x = .ref a /\ SqL K H a xs /\ ∀ p, H p = none -> Q (.ref p) (upd H p (.lst (cutV xs lo hi)))
theorem sl_list : SlR X (rSlL X.K) := by
  intro pins s σ H x v vl vu lo hi sl Q I rx hs pl pu h
  obtain ⟨a, xs, rfl, hx, q⟩ := h
  cases rx
  obtain ⟨its, r, ht, hz⟩ := I.list hx
  have hlen := r.length
  refine ⟨"list", _, slot_list_getitem.lookup, ht.isList.typeIs, ?_⟩
  refine wpAny_getItem_list_slice ht.isList hs pl pu .none (by simp) ?_ (by rw [List.size_toArray] <;> omega)
  rw [slicePick_cut, <- hlen]
  refine ⟨.ref s.heap.objs.size, _, I.laid (t' := s.toks) (o := .lst (cutV xs lo hi)) (fun b ob q => Heap.get?_push_of_some _ q) (Nat.le_refl _) ?_, rfl, q _ (I.hok.fresh (Nat.le_refl _))⟩
  exact ⟨Nat.le_trans (cutV_length xs lo hi) hz, _, 0, (r.drop (HT.sIx xs.length 0 lo)).take (HT.sIx xs.length xs.length hi - HT.sIx xs.length 0 lo), Heap.get?_push_size _ rfl⟩
theorem call_len_seq : CallR X (.builtin "len") (fun xs H Q => ∃ p ys, xs = [.ref p] /\ (SqL X.K H p ys \/ SqT X.K H p ys) /\ Q (.int ys.length) H) := by
  intro pins s σ H xs us Q I r h
  obtain ⟨p, ys, rfl, hq, q⟩ := h
  obtain ⟨u, rfl, rx⟩ := vals1 r
  cases rx
  have hn := line63
  rcases hq with hq | hq
  . obtain ⟨its, r', pl, hz⟩ := I.list hq
    have hlen := r'.length
    exact Calls.call_len_list pl.isList (by simp only [List.size_toArray] <;> omega) ⟨.int ys.length, H, I.tok _, ⟨s.toks + 1, by rw [List.size_toArray, hlen]⟩, q⟩
  . obtain ⟨its, r', pl, hz⟩ := I.tuple hq
    have hlen := r'.length
    exact len_tuple pl (by simp only [List.size_toArray] <;> omega) ⟨.int ys.length, H, I.tok _, ⟨s.toks + 1, by rw [List.size_toArray, hlen]⟩, q⟩
theorem call_tuple_of : CallR X (.type "tuple") (fun xs H Q => ∃ p ys, xs = [.ref p] /\ ((SqL X.K H p ys /\ ∀ l, H l = none -> Q (.ref l) (upd H l (.tup ys))) \/ (SqT X.K H p ys /\ Q (.ref p) H))) := by
  intro pins s σ H xs us Q I r h
  obtain ⟨p, ys, rfl, h⟩ := h
  obtain ⟨u, rfl, rx⟩ := vals1 r
  cases rx
  rcases h with ⟨hq, q⟩ | ⟨hq, q⟩
  . obtain ⟨its, r', pl, hz⟩ := I.list hq
    have hlen := r'.length
    refine call_tuple_list pl.isList (fun h' kp => ?_) (by simp only [List.size_toArray] <;> omega)
    have I1 : Inv X pins σ H { s with heap := h' } := I.kept (t' := s.toks) kp
    have I2 : Inv X pins σ (upd H h'.objs.size (.tup ys)) { s with heap := h'.push { cls := .type "tuple", data := .seq its.toArray } } :=
      I1.laid (t' := s.toks) (fun b o e => Heap.get?_push_of_some _ e) (Nat.le_refl _) (show ObjOk X.prog X.w _ _ _ (.tup ys) from ⟨hz, its, r', IsTup.new _ _⟩)
    exact ⟨.ref h'.objs.size, _, I2, rfl, q _ (I1.hok.fresh (Nat.le_refl _))⟩
  . obtain ⟨its, r', pl, hz⟩ := I.tuple hq
    exact call_tuple_same pl ⟨.ref p, H, I, rfl, q⟩
noncomputable def tyV (K : PySem.W.Frag) (T : String) (x : V) (H : Hp) : Prop := match x with
  | .str _ => T = "str"
  | .int _ => T = "int"
  | .ref p => (T = "list" /\ ∃ xs, SqL K H p xs) \/ (T = "tuple" /\ ∃ o, K.lookup p = some o /\ o.cls = .type "tuple" /\ o.dict = none) \/
      (T = "dict" /\ ((∃ kvs, H p = some (.dK kvs)) \/ ∃ kvs, H p = some (.dT kvs))) \/ (T = "set" /\ ∃ S n, H p = some (.set S n))
  | _ => False
theorem tyV_is {pins : List (Addr × Obj)} {σ : St} {H : Hp} {s : Shared} {T : String} {x : V} {v : Value} (I : Inv X pins σ H s) (r : RelV x v) (ty : tyV X.K T x H) :
    s.TypeIs v T /\ ∀ a, v = .ref a -> ∃ ob, s.heap.get? a = some ob /\ ob.dict = none := by
  cases x with
  | str z =>
    obtain ⟨t, rfl⟩ := r
    cases (show T = "str" from ty)
    exact ⟨typeIs_str s z t, fun _ e => nomatch e⟩
  | int i =>
    obtain ⟨t, rfl⟩ := r
    cases (show T = "int" from ty)
    exact ⟨typeIs_int s i t, fun _ e => nomatch e⟩
  | ref p =>
    cases r
    rcases ty with ⟨rfl, xs, hq⟩ | ⟨rfl, o, hk, hc, hd⟩ | ⟨rfl, hk⟩ | ⟨rfl, S, n, hk⟩
    . obtain ⟨its, _, pl, _⟩ := I.list hq
      refine ⟨pl.isList.typeIs, fun a e => ?_⟩
      cases e
      obtain ⟨o, n, e, c, hd, _⟩ := pl
      exact ⟨o, e, hd⟩
    . refine ⟨⟨o, I.kIn p o hk, hc⟩, fun a e => ?_⟩
      cases e
      exact ⟨o, I.kIn _ o hk, hd⟩
    . have z : ∃ o, s.heap.get? p = some o /\ o.ExactDict := by
        rcases hk with ⟨kvs, hk⟩ | ⟨kvs, hk⟩
        . obtain ⟨_, _, _, _, o, _, _, e, ex, _⟩ := I.hok p _ hk
          exact ⟨o, e, ex⟩
        . obtain ⟨_, _, _, _, o, _, _, e, ex, _⟩ := I.hok p _ hk
          exact ⟨o, e, ex⟩
      obtain ⟨o, e, ex⟩ := z
      refine ⟨⟨o, e, ex.1⟩, fun a e2 => ?_⟩
      cases e2
      exact ⟨o, e, ex.2.1⟩
    . obtain ⟨o, _, _, _, e, ex, _⟩ := I.hok p _ hk
      refine ⟨⟨o, e, ex.1⟩, fun a e2 => ?_⟩
      cases e2
      exact ⟨o, e, ex.2.1⟩
  | _ => exact False.elim ty
noncomputable def tBM (K : PySem.W.Frag) (T : String) (r : V -> List V -> Hp -> VK -> Prop) (to : TE) (t : TA) : TE := fun σ H Q => to σ H fun x H1 => tyV K T x H1 /\ t σ H1 fun xs H2 => r x xs H2 Q
variable {o e : Expr} {es : List Expr} {to : TE} {t : TA} {name : Str} {apos cpos : Pos} {T id : String} {r : V -> List V -> Hp -> VK -> Prop}
theorem pe_bm (pa : PlainAttrs T) (slot : Slot T name id) (hty : typeOf (.builtin id) = pure (.type "method_descriptor")) (hm : MtR X id r) (ho : PE X o to) (ha : PA X (e :: es) t)
    (hbase : attributeBase o name X.env (eval o X.env) = eval o X.env := by rfl)
    (hfew : ((backTo cpos (starEach (e :: es) X.env)).all (fun x => !x.1) && (backToKw cpos (keywordEach [] X.env)).all (fun x => x.1.isSome)
      && decide ((e :: es).length + ([] : List Keyword).length + (if ([] : List Keyword).isEmpty then 0 else 1) < 30)) = true := by rfl)
    (hline : (apos.endLine == cpos.line) = true := by rfl) (hs : starEach (e :: es) X.env = (false, eval e X.env) :: starEach es X.env := by rfl) (hplain : (backTo cpos (starEach es X.env)).any (·.1) = false := by rfl) :
    PE X (.Call (.Attribute o name apos) (e :: es) [] cpos) (tBM X.K T r to t) := by
  intro pins s σ H Q I h
  refine wpAny_Call_method_late hbase hfew hline rfl (thn (ho pins s σ H _ I h) fun v s1 ⟨x, H1, I1, r1, ty, q1⟩ => ?_)
  obtain ⟨h1, h2⟩ := tyV_is I1 r1 ty
  refine ⟨T, id, pa, slot, hty, h1, h2, ?_⟩
  have hA := ha cpos pins s1 σ H1 _ I1 q1
  rw [hs] at hA ⊢
  refine Calls.callWith_builtin (by show (false || (backTo cpos (starEach es X.env)).any (·.1)) = false; rw [hplain] <;> rfl) (Calls.evalArgs_plain ?_)
  exact thn hA fun us s2 ⟨vs, H2, I2, r2, q2⟩ => hm pins s2 σ H2 x vs v us Q I2 r1 r2 q2
end
end L2
namespace L2
open PySem PySem.Spec PyProof.Rows
noncomputable def MtM (X : Cx) (id : String) (r : V -> List V -> Hp -> VK -> Prop) : Prop :=
  ∀ (pins : List (Addr × Obj)) (s : Shared) (σ : St) (H : Hp) (x : V) (xs : List V) (v : Value) (us : List Value) (Q : VK), Inv X pins σ H s -> RelV x v -> Vals xs us -> r x xs H Q ->
    wpAny (model X.prog X.w) X.A (call (.builtin id) (v :: us)) (EP X pins σ Q) X.xe s
theorem Vals.one : ∀ {x : V} {us : List Value}, Vals [x] us -> ∃ u, us = [u] /\ RelV x u
  | _, _, .cons r .nil => ⟨_, rfl, r⟩
section
variable {X : Cx} {pins : List (Addr × Obj)} {σ : St} {H : Hp} {s : Shared} {l b : Addr} {xs ys zs : List V}
theorem Inv.lset {its its' : List Value} {n : Nat} {f : Array Value -> Array Value} {t' : Nat} (I : Inv X pins σ H s) (hH : H l = some (.lst xs))
    (e : s.heap.get? l = some { cls := .type "list", data := .seq its.toArray n }) (hf : f its.toArray = its'.toArray) (hv : Vals ys its') (hz : ys.length <= sizeLine) :
    Inv X pins σ (upd H l (.lst ys)) { s with heap := s.heap.update l (Obj.mapSeq f), toks := t' } := by
  have q := PySem.IsL.update e f
  rw [hf] at q
  refine I.write (x := l) (e := l) (by rw [hH]; exact trivial) (.inl rfl) (fun b' u hb hu => (Heap.get?_update_other s.heap (Obj.mapSeq f) (Ne.symm hb)).trans hu) ⟨_, q⟩ ?_
  exact ⟨hz, its', _, hv, q⟩
theorem Inv.lnew {its : List Value} {t' : Nat} (I : Inv X pins σ H s) (hv : Vals ys its) (hz : ys.length <= sizeLine) :
    Inv X pins σ (upd H s.heap.objs.size (.lst ys)) { s with heap := s.heap.push { cls := .type "list", data := .seq its.toArray }, toks := t' } :=
  I.laid (fun _ _ q => Heap.get?_push_of_some _ q) (Nat.le_refl _) ⟨hz, its, 0, hv, Heap.get?_push_size _ rfl⟩
theorem Inv.fresh (I : Inv X pins σ H s) : H s.heap.objs.size = none := I.hok.fresh (Nat.le_refl _)
theorem Inv.lstM (I : Inv X pins σ H s) (hH : H l = some (.lst xs)) : xs.length <= sizeLine /\ ∃ (its : List Value) (n : Nat), Vals xs its /\ xs.length = its.length /\ s.heap.get? l = some { cls := .type "list", data := .seq its.toArray n } := by
  obtain ⟨z, its, n, r, e⟩ := I.hok l _ hH
  exact ⟨z, its, n, r, r.length, e⟩
theorem notLongL {n : Nat} (h : n <= sizeLine) : Builtin.List.listTooLong n = false := by
  unfold Builtin.List.listTooLong
  exact decide_eq_false (by omega)
end
section
variable {X : Cx}
noncomputable def rAppend : V -> List V -> Hp -> VK -> Prop := fun x vs H Q => ∃ l xs y, x = .ref l /\ vs = [y] /\ H l = some (.lst xs) /\ xs.length < sizeLine /\ Q .non (upd H l (.lst (xs ++ [y])))
theorem mt_append : MtM X "list.append" rAppend := by
  intro pins s σ H x vs v us Q I rx rv h
  obtain ⟨l, xs, y, rfl, rfl, hH, hz, q⟩ := h
  cases rx
  obtain ⟨u, rfl, ru⟩ := rv.one
  obtain ⟨z, its, n, r, hl, e⟩ := I.lstM hH
  refine call_meets F.slot_list_append ⟨_, e, rfl⟩ F.entry_list_append (F.args_list_append_2 _ _) (PySem.list_append l its.toArray n u (by rw [List.size_toArray]; omega)) ⟨e, ?_⟩
  refine ⟨.non, _, I.lset (its' := its ++ [u]) hH e (by simp) (r.append (.cons ru .nil)) ?_, rfl, q⟩
  rw [List.length_append, List.length_singleton]
  omega
noncomputable def rExtend : V -> List V -> Hp -> VK -> Prop := fun x vs H Q => ∃ l b xs zs, x = .ref l /\ vs = [.ref b] /\ H l = some (.lst xs) /\ H b = some (.lst zs) /\ xs.length + zs.length <= sizeLine /\ Q .non (upd H l (.lst (xs ++ zs)))
theorem mt_extend : MtM X "list.extend" rExtend := by
  intro pins s σ H x vs v us Q I rx rv h
  obtain ⟨l, b, xs, zs, rfl, rfl, hH, hB, hz, q⟩ := h
  cases rx
  obtain ⟨u, rfl, ru⟩ := rv.one
  cases ru
  obtain ⟨z, its, n, r, hl, e⟩ := I.lstM hH
  obtain ⟨z2, its2, n2, r2, hl2, e2⟩ := I.lstM hB
  have hsz : its.toArray.size + its2.toArray.size <= sizeLine := by rw [List.size_toArray, List.size_toArray]; omega
  have hlong : ¬ (!its.toArray.isEmpty && Builtin.List.listTooLong (its.toArray.size + its2.toArray.size)) = true := by
    rw [notLongL hsz, Bool.and_false]
    exact Bool.false_ne_true
  refine call_meets F.slot_list_extend ⟨_, e, rfl⟩ F.entry_list_extend (F.args_list_extend_2 _ _)
    (AutoSeq1.list_extend_list_list_0 l its.toArray n b its2.toArray n2 hlong (by rw [List.size_toArray]; omega) (by omega)) ⟨e, e2, ?_⟩
  refine ⟨.non, _, I.lset (its' := its ++ its2) hH e (by simp) (r.append r2) ?_, rfl, q⟩
  rw [List.length_append]
  omega
noncomputable def rCat : R2 := fun x y H Q => ∃ l b xs zs, x = .ref l /\ y = .ref b /\ H l = some (.lst xs) /\ H b = some (.lst zs) /\ xs.length + zs.length <= sizeLine /\ ∀ p, H p = none -> Q (.ref p) (upd H p (.lst (xs ++ zs)))
theorem op_cat : OpR X (binaryOp .Add) rCat := by
  intro pins s σ H x y v u Q I rx ry h
  obtain ⟨l, b, xs, zs, rfl, rfl, hH, hB, hz, q⟩ := h
  cases rx
  cases ry
  obtain ⟨z, its, n, r, hl, e⟩ := I.lstM hH
  obtain ⟨z2, its2, n2, r2, hl2, e2⟩ := I.lstM hB
  refine PySem.P.add_list e e2 ?_ (by rw [List.size_toArray, List.size_toArray]; omega)
  have ea : its.toArray ++ its2.toArray = (its ++ its2).toArray := by simp
  rw [ea]
  exact ⟨.ref _, _, I.lnew (t' := s.toks) (r.append r2) (by rw [List.length_append]; omega), rfl, q _ I.fresh⟩
end
section
variable {prog : Program} {w : World} {A : Around} {E : Value -> Shared -> Prop} {s : Shared}
end
section
variable {X : Cx}
end
end L2
namespace Att
open PySem PySem.W PySem.Calls PyProof.Rows
theorem ints_of_wellAll {P : Params} {h : Heap} : ∀ (ns : List Int) (vs : List Value), WellAll P h vs (ns.map WData.int) -> IntsAre vs ns := by
  intro ns
  induction ns with
  | nil =>
    intro vs w
    rw [List.map_nil] at w
    cases w
    exact .nil
  | cons n ns ih =>
    intro vs w
    rw [List.map_cons] at w
    cases w with
    | cons a b =>
      cases a
      exact .cons _ _ (ih _ b)
theorem script_of {l : OpenLaw} {n : Nat} (hn : l.most = some n) {P : Params} {h : Heap} {args : List WData} {vals : List Value}
    (hpre : l.row.toRowW.claim.pre args = true) (hwl : WellAll P h vals args) :
    ∃ a vs ns, vals = [Value.ref a] /\ args = [WData.list (ns.map WData.int)] /\ h.get? a = some { cls := .type "list", data := .seq vs.toArray } /\ IntsAre vs ns /\ ns.length <= n := by
  have hsh : WShape.hasAll [] args [.list .int] = true := (pre_splitW hpre).1
  have hc : l.pre.holds [] { args := args } = true := (pre_splitW hpre).2
  obtain ⟨d, r, rfl, h1, h2⟩ := hasAllW_cons hsh
  obtain rfl := hasAllW_nil h2
  obtain ⟨xs, rfl, h3⟩ := hasW_list h1
  obtain ⟨ns, rfl⟩ := items_int h3
  have hlen : ns.length <= n := by
    unfold OpenLaw.pre at hc
    have h4 : (WTm.not (.lt (.lit (.int (n : Int))) (.len (.arg 0)))).holds [] { args := [.list (ns.map .int)] } = true := by
      have h4 := (holds_andW hc).1
      rw [hn] at h4
      exact h4
    have h5 := condW_of h4 (w_not (w_lt w_lit (w_len_list (w_arg rfl))))
    rw [List.length_map] at h5
    refine Nat.le_of_not_lt fun q => ?_
    have q' : (n : Int) < ((ns.length : Nat) : Int) := by omega
    first
      | (rw [decide_eq_true q'] at h5; exact absurd h5 (by decide))
      | (simp at h5; omega)
  cases hwl with
  | cons w1 w2 =>
    cases w2
    cases w1 with
    | list ho hall => exact ⟨_, _, ns, rfl, rfl, ho, ints_of_wellAll ns _ hall, hlen⟩
theorem post_true (l : OpenLaw) (args : List WData) : l.row.toRowW.claim.post args (.bool true) args = true :=
  postW_of (r := l.row.toRowW) (X := (true == true))
    (show WShape.has [] (.bool true) .bool = true by first | rfl | decide | simp [WShape.has, WShape.arms, WShape.armsAll])
    (show (WTm.eq .res (.lit (.bool true))).value [] { args := args, res := some (.bool true), after := args } = some (.bool (true == true)) from w_eq_bool (w_res rfl) w_lit) rfl
section
variable {prog : Program} {w : World} {A : Around} {E : Value -> Shared -> Prop} {s : Shared} {K : Frag}
end
end Att
namespace L2
open PySem PySem.Spec PyProof.Rows
theorem vals_ints : ∀ {vs : List Value} {ns : List Int}, IntsAre vs ns -> Vals (ns.map V.int) vs
  | _, _, .nil => .nil
  | _, _, .cons n t h => .cons ⟨t, rfl⟩ (vals_ints h)
noncomputable def Only (H : Hp) : Prop := ∀ b, H b = none \/ ∃ o xs, H b = some (.frz o (.lst xs))
theorem law_call {P : Program} {w : World} {K : PySem.W.Frag} {mg mb : Str -> Option Value} {CX : CXT} {k : Nat} {fa a : Addr} {fd : FuncData} {x : Str} {sp : Sp} {s₁ : Shared} {vs : List Value} {ns : List Int}
    (KX : K.In s₁.heap) (hns : s₁.heap.Ns mainGlobals mg) (hb : s₁.heap.Ns builtinsNs mb) (hbb : ∀ x : Str, x ≠ "__name__" -> mb x = bootBuiltins x) (hlim : s₁.heap.NoLimit) (hg : s₁.gens = #[])
    (ha : s₁.heap.get? a = some { cls := .type "list", data := .seq vs.toArray }) (hi : IntsAre vs ns) (hl : ns.length <= sizeLine) (hr : Room k callerA)
    (F : ∀ base : Heap, K.In base -> base.Ns mainGlobals mg -> FnOk P w K mg base CX k fa fd [x] sp) (hbind : ∀ (s : Shared) (u : Value), BindsTo s fd ⟨[u], []⟩ [(x, u)])
    (hsp : ∀ H : Hp, Only H -> SqL K H a (ns.map V.int) -> sp [.ref a] H (fun v _ => v = .bl true) fun _ _ _ => False)
    (hCX : ∀ H e s', CX [] H s₁ (fun _ _ _ => False) e s' -> False) :
    codeAny (model P w) callerA (.call (.ref fa) ⟨[.ref a], []⟩) (fun r s' => r = .ok (.ret (.bool true)) /\ OldK s₁.heap s'.heap /\ s'.os = s₁.os /\ AllBare s'.gens) s₁ := by
  have rv := vals_ints hi
  have lenV := hi.length
  have core : ∀ H : Hp, Only H -> SqL K H a (ns.map V.int) -> HOk P w H s₁.heap -> (∀ b, H b ≠ none -> b = a) -> (H a ≠ none -> K.lookup a = none) ->
      codeAny (model P w) callerA (.call (.ref fa) ⟨[.ref a], []⟩) (fun r s' => r = .ok (.ret (.bool true)) /\ OldK s₁.heap s'.heap /\ s'.os = s₁.os /\ AllBare s'.gens) s₁ := by
    intro H hO hS hok hA hK
    have base_of : ∀ {b : Addr} {o : Obj}, s₁.heap.get? b = some o -> H b = none -> (hidT s₁.heap H).get? b = some o := fun e n => hidT_get e n
    have noA : ∀ {b : Addr} {o : Obj} {es : Array DictEntry} {ep : Nat}, s₁.heap.get? b = some o -> o.data = .dict es ep -> H b = none := fun {b o es ep} e d => by
      cases q : H b with
      | none => rfl
      | some u =>
        have e' : b = a := hA b (by rw [q]; simp)
        subst e'
        rw [ha] at e; cases e
        have d' : Data.seq vs.toArray _ = Data.dict es ep := d
        cases d'
    have nsK : ∀ {b : Addr} {m : Str -> Option Value}, s₁.heap.Ns b m -> (hidT s₁.heap H).Ns b m := fun {b m} ⟨o, es, ep, e, d, r⟩ => ⟨o, es, ep, base_of e (noA e d), d, r⟩
    have hKb : K.In (hidT s₁.heap H) := fun b o e => base_of (KX b o e) (by
      cases q : H b with
      | none => rfl
      | some u =>
        have e' : b = a := hA b (by rw [q]; simp)
        subst e'
        rw [hK (by rw [q]; simp)] at e; cases e)
    have hM : Mod K mg (hidT s₁.heap H) := ⟨hKb, nsK hns, ⟨mb, nsK hb, hbb⟩, let ⟨mc, h1, h2⟩ := hlim; ⟨mc, nsK h1, h2⟩⟩
    have e0 : Env0 P w K mg (hidT s₁.heap H) callerA [] s₁ H := ⟨rfl, hM, fun b o e => of_hidT e, Nat.le_of_eq (hidT_size _ _), trivial, fun b hb => absurd (show b ∈ ([] : List Addr) from hb) (by simp), hok, .of_eq hg⟩
    refine codeAny_mono ((F _ hKb (nsK hns)).run callerA [] s₁ H ⟨[.ref a], []⟩ [.ref a] [.ref a] _ _ hr e0 (hbind s₁ (.ref a)) (.cons rfl .nil) (hsp H hO hS)) fun r s' h => ?_
    cases r with
    | error e => exact (hCX H e s' h).elim
    | ok fl =>
      cases fl with
      | next => exact False.elim h
      | brk => exact False.elim h
      | cont => exact False.elim h
      | ret u =>
        obtain ⟨v, H', os, bare, un, hok', r', q⟩ := h
        have q' : v = .bl true := q
        subst q'
        obtain rfl : u = Value.bool true := r'
        refine ⟨rfl, OldK.of_keep fun b o e => ?_, os, bare⟩
        cases q : H b with
        | none => exact un.keep b o e q (by intro z; exact absurd (show b ∈ ([] : List Addr) from z) (by simp)) (by simp)
        | some u =>
          rcases hO b with z | ⟨ob, xs, z⟩
          . rw [q] at z; cases z
          . have z2 := un.frzs b ob _ z
            obtain ⟨e1, _⟩ := hok b _ z
            obtain ⟨e2, _⟩ := hok' b _ z2
            rw [e] at e1; cases e1
            exact e2
  cases hk : K.lookup a with
  | some o =>
    have e := KX a o hk
    rw [ha] at e
    cases e
    refine core (fun _ => none) (fun _ => .inl rfl) (.inr ⟨_, vs.toArray, _, hk, rfl, rfl, rfl, by rw [List.size_toArray, lenV]; exact hl, by simpa using rv⟩) (fun b u z => by have z' : (none : Option HO) = some u := z; cases z') (fun b z => absurd rfl z) fun z => absurd rfl z
  | none =>
    refine core (fun b => if b = a then some (.frz { cls := .type "list", data := .seq vs.toArray } (.lst (ns.map V.int))) else none) (fun b => ?_) (.inl (.inr ⟨{ cls := .type "list", data := .seq vs.toArray }, if_pos rfl⟩)) (fun b u z => ?_) (fun b z => ?_) fun _ => hk
    . by_cases hb : b = a
      . exact .inr ⟨_, _, if_pos hb⟩
      . exact .inl (if_neg hb)
    . by_cases hb : b = a
      . have z' := (if_pos hb).symm.trans z
        cases z'
        subst hb
        exact ⟨ha, by rw [List.length_map]; exact hl, vs, _, rv, ha⟩
      . have z' := (if_neg hb).symm.trans z
        cases z'
    . by_cases hb : b = a
      . exact hb
      . exact absurd (if_neg hb) z
end L2
namespace L2
open PySem PySem.Spec PyProof.Rows
end L2
namespace L2
open PySem PySem.Spec PyProof.Rows
noncomputable def defArgs (s : Stmt) : Arguments := match s with
  | .FunctionDef _ a _ _ _ _ _ _ _ _ => a
  | _ => { posonlyargs := [], args := [], vararg := none, kwonlyargs := [], kw_defaults := [], kwarg := none, defaults := [] }
noncomputable def defBody (s : Stmt) : List Stmt := match s with
  | .FunctionDef _ _ b _ _ _ _ _ _ _ => b
  | _ => []
noncomputable def defScope (s : Stmt) : Scope := match s with
  | .FunctionDef _ _ _ _ _ _ sc _ _ _ => sc
  | _ => { kind := .function, names := [], isGenerator := false, isCoroutine := false }
noncomputable abbrev CX0 : CXT := fun _ _ _ _ _ _ => False
noncomputable abbrev E0 : XK := fun _ _ _ => False
theorem pass0 {X : Cx} : Passes CX0 X E0 := fun _ _ _ _ _ _ _ h => h.elim
structure Fun (K : PySem.W.Frag) (x qual : Str) (st : Stmt) (f : Addr) (fd : FuncData) : Prop where
  ex : ∃ (oc : Value) (od : Option Addr) (kV doc pm : Value) (an : Option Addr) (cdv ct : Value) (osl : Array (Option Value)),
    fd = PySem.W.fnOf x qual (defArgs st) (defBody st) (defScope st) .none kV doc pm an cdv ct /\ K.lookup f = some ⟨oc, od, .func fd, osl⟩ /\ PySem.W.codeIn K cdv qual = true
  kp : PySem.W.keepIn K (.ref f) = true
section
variable {P : Program} {w : World} {K : PySem.W.Frag} {mg : Str -> Option Value} {base : Heap}
theorem Fun.ok {x qual : Str} {st : Stmt} {f : Addr} {fd : FuncData} {N ps : List Str} {k : Nat} {sp : Sp} (F : Fun K x qual st f fd) (S : FnScope N ps (defScope st)) (len : ∀ vs H Q E, sp vs H Q E -> vs.length = ps.length)
    (hbody : ∀ (cdv : Value) (A : Around) (outer : List Env) (s : Shared) (H : Hp) (vs : List V) (Q : VK) (E : XK), Room k (A.deeper (envOfC qual (defScope st) s.heap.objs.size f cdv)) -> sp vs H Q E ->
      ∃ t, PSs (cxOf CX0 P w K mg base N qual (defScope st) f cdv A outer s H E).nox (defBody st) t /\ t { nx := fun _ H' => Q .non H', rt := Q } (start N vs) H) : FnOk P w K mg base CX0 (k + 1) f fd ps sp := by
  obtain ⟨oc, od, kV, doc, pm, an, cdv, ct, osl, rfl, lk, hcd⟩ := F.ex
  refine fn_of lk hcd S len fun A outer s H vs Q E hr hsp => ?_
  obtain ⟨t, h, q⟩ := hbody cdv A outer s H vs Q E hr hsp
  exact ⟨t, h.nox, q⟩
theorem Fun.binds {x qual : Str} {st : Stmt} {f : Addr} {fd : FuncData} {ps : List Str} (F : Fun K x qual st f fd)
    (h : ∀ (kV doc pm : Value) (an : Option Addr) (cdv ct : Value) (us : List Value), us.length = ps.length -> bindArgs (PySem.W.fnOf x qual (defArgs st) (defBody st) (defScope st) .none kV doc pm an cdv ct) ⟨us, []⟩ = pure (ps.zip us)) : Binds K fd ps [] := by
  obtain ⟨oc, od, kV, doc, pm, an, cdv, ct, osl, rfl, lk, hcd⟩ := F.ex
  exact .all (h kV doc pm an cdv ct)
theorem fun_mk {x qual : Str} {st : Stmt} {f : Addr} {oc : Value} {od an : Option Addr} {osl : Array (Option Value)} {kV doc pm cdv ct : Value} (l : K.lookup f = some ⟨oc, od, .func (PySem.W.fnOf x qual (defArgs st) (defBody st) (defScope st) .none kV doc pm an cdv ct), osl⟩)
    (c : PySem.W.codeIn K cdv qual = true) (k : PySem.W.keepIn K (.ref f) = true) : Fun K x qual st f (PySem.W.fnOf x qual (defArgs st) (defBody st) (defScope st) .none kV doc pm an cdv ct) := ⟨⟨oc, od, kV, doc, pm, an, cdv, ct, osl, rfl, l, c⟩, k⟩
end
theorem small1000 {n : Nat} (h : n <= 1000) : n < sizeLine := Nat.lt_of_le_of_lt h (by decide)
section
variable {X : Cx}
end
theorem iteT {A B : Prop} (h : A) : if true = true then A else B := by
  rw [if_pos rfl]
  exact h
theorem ite2 {c A B : Prop} [Decidable c] (h1 : c -> A) (h2 : ¬ c -> B) : if c then A else B := by
  by_cases h : c
  . rw [if_pos h]
    exact h1 h
  . rw [if_neg h]
    exact h2 h
noncomputable def Same (H H' : Hp) : Prop := ∀ b o, H b = some o -> H' b = some o
theorem Same.refl (H : Hp) : Same H H := fun _ _ h => h
theorem Same.trans {H H1 H2 : Hp} (a : Same H H1) (b : Same H1 H2) : Same H H2 := fun c o h => b c o (a c o h)
theorem Same.free {H H' : Hp} (e : Same H H') {l : Addr} (h : H' l = Option.none) : H l = Option.none := by
  cases q : H l with
  | none => rfl
  | some o =>
    rw [e l o q] at h
    cases h
theorem Same.seq {K : PySem.W.Frag} {H H' : Hp} {a : Addr} {xs : List V} (e : Same H H') (h : SqL K H a xs) : SqL K H' a xs := by
  rcases h with (h | ⟨o, h⟩) | h
  . exact .inl (.inl (e _ _ h))
  . exact .inl (.inr ⟨o, e _ _ h⟩)
  . exact .inr h
end L2
end
section
namespace L2
open PySem PySem.Spec PyProof.Rows
section
variable {prog : Program} {w : World} {A : Around} {R : Result -> Shared -> Prop} {s : Shared}
theorem compLoop_any {elt target iter : Expr} {ifs : List Expr} {scope : Scope} {pos : Pos} {it acc : Value} {env : Env} (I : Nat -> Shared -> Prop)
    (turn : ∀ n s, I n s -> wpAny (model prog w) A (pyNext it) (fun r s₁ => match r with
      | none => R (.ok .next) s₁
      | some v => wpAny (model prog w) A (letOwnedTupleGo target it v) (fun _ s₁ => wpAny (model prog w) A (assign target env v) (fun _ s₂ =>
          wpAny (model prog w) A (forIn ifs true fun c r => if r = true then do let ok <- isTrue c env (eval c env); pure (ForInStep.yield ok) else pure (ForInStep.yield r)) (fun ok s₃ =>
            if ok = true then wpAny (model prog w) A (eval elt env) (fun x s₄ =>
              wpAny (model prog w) A (call (.builtin "list.append") [acc, x]) (fun _ s₅ => ∃ m, m < n /\ I m s₅) (fun _ _ => False) s₄) (fun _ _ => False) s₃
            else ∃ m, m < n /\ I m s₃) (fun _ _ => False) s₂) (fun _ _ => False) s₁) (fun _ _ => False) s₁) (fun _ _ => False) s)
    (n : Nat) (h : I n s) :
    codeAny (model prog w) A (.compLoop (.ListComp elt [⟨target, iter, ifs, 0⟩] scope pos) 0 it acc env) R s := by
  refine codeAny_loop rfl I (fun n s hI => ?_) n h
  show wpAny _ A ((compTurn (.ListComp elt [⟨target, iter, ifs, 0⟩] scope pos) 0 it acc env).onRaise (fun x => do noteFrame x env; theTreesLotGoes x)) _ _ s
  refine wpAny_noted ?_
  rw [compTurn_list]
  refine wpAny_bind (wpAny_standAt (wpAny_bind (wpAny_mono (turn n s hI) (fun r s₁ h₁ => ?_) fun _ _ h' => h'.elim)))
  cases r with
  | none => exact wpAny_pure h₁
  | some v =>
    refine wpAny_bind (wpAny_mono h₁ (fun _ s₁ h₁ => ?_) fun _ _ h' => h'.elim)
    refine wpAny_bind (wpAny_mono h₁ (fun _ s₂ h₂ => wpAny_bind (wpAny_mono h₂ (fun ok s₃ h₃ => ?_) fun _ _ h' => h'.elim)) fun _ _ h' => h'.elim)
    cases ok with
    | false => exact wpAny_pure ⟨rfl, h₃⟩
    | true =>
      exact wpAny_bind (wpAny_bind (wpAny_mono h₃ (fun x s₄ h₄ => wpAny_bind (wpAny_mono h₄ (fun _ s₅ h₅ => wpAny_pure (wpAny_pure ⟨rfl, h₅⟩)) fun _ _ h' => h'.elim)) fun _ _ h' => h'.elim))
end
noncomputable def clOf (cells : List (Str × Addr)) : List (Str × NameKind) -> List (Str × Addr) -> List (Str × Addr)
  | [], acc => acc
  | (n, k) :: r, acc => clOf cells r (if k == .free then match cells.lookup n with | some c => (n, c) :: acc | none => acc else acc)
theorem closureFor_go {env : Env} : ∀ (names : List (Str × NameKind)) (acc : List (Str × Addr)), (∀ y ∈ names, y.2 = .free -> ∃ c, env.cells.lookup y.1 = some c) ->
    (forIn names acc (fun (x : Str × NameKind) (cs : List (Str × Addr)) => (if x.2 == .free then (do let a <- cellOf env x.1; pure (ForInStep.yield ((x.1, a) :: cs))) else pure (ForInStep.yield cs) : Sem (ForInStep (List (Str × Addr)))))) = pure (clOf env.cells names acc)
  | [], acc, _ => rfl
  | (n, k) :: r, acc, h => by
    rw [List.forIn_cons]
    have hr := fun a => closureFor_go r a fun y hy => h y (List.mem_cons_of_mem _ hy)
    by_cases hk : k = .free
    . subst hk
      obtain ⟨c, e⟩ := h (n, .free) List.mem_cons_self rfl
      have ec : cellOf env n = pure c := by unfold cellOf; rw [e]
      simp only [beq_self_eq_true, if_true, ec, clOf, e]
      exact hr _
    . have hb : (k == NameKind.free) = false := by simpa using hk
      simp only [hb, Bool.false_eq_true, if_false, clOf]
      exact hr _
theorem closureFor_eq {scope : Scope} {env : Env} (h : ∀ y ∈ scope.names, y.2 = .free -> ∃ c, env.cells.lookup y.1 = some c) : closureFor scope env = pure (clOf env.cells scope.names []) := by
  have q := closureFor_go (env := env) scope.names [] h
  unfold closureFor
  show (forIn scope.names [] _ >>= fun cs => pure cs) = _
  first
    | (rw [show (forIn scope.names [] _ : Sem (List (Str × Addr))) = _ from q]; rfl)
    | (erw [q]; rfl)
end L2
end
section
namespace L2
open PySem PySem.Spec PyProof.Rows
noncomputable def maskS (y : Str) : Str := ⟨#[0] ++ y.cps⟩
noncomputable def maskN (own N : List Str) : List Str := own ++ N.map fun y => if own.contains y then maskS y else y
noncomputable def cxComp (X : Cx) (own : List Str) (scope : Scope) (C : Addr) (fp : List Addr) (s : Shared) (H : Hp) : Cx :=
  { X with N := maskN own X.N, s₀ := s, H₀ := H, env := compEnvC scope (clOf X.env.cells scope.names []) C X.env, outer := X.stack, stack := X.stack, ex := fp, fn := fun x => own.contains x, pn := [], xe := fun _ _ => False }
structure CompScope (own N : List Str) (sc scope : Scope) : Prop where
  nd : (maskN own N).Nodup
  kind : scope.kind = .function
  nocell : ∀ y ∈ scope.names, y.2 ≠ .cell
  loc : ∀ y ∈ scope.names, y.2 = .local -> scope.names.lookup y.1 = some .local
  fr : ∀ y ∈ scope.names, y.2 = .free -> scope.names.lookup y.1 = some .free
  up : ∀ y ∈ scope.names, y.2 = .free -> sc.names.lookup y.1 = some .cell \/ sc.names.lookup y.1 = some .free
  ow : ∀ x ∈ own, scope.names.lookup x = some .local
  mask : ∀ x ∈ own, scope.names.lookup (maskS x) = none
  only : ∀ y ∈ scope.names, y.2 = .local -> y.1 ∈ own \/ y.1 ∉ N
theorem lookup_mem {β : Type} : ∀ {l : List (Str × β)} {x : Str} {k : β}, l.lookup x = some k -> (x, k) ∈ l
  | [], _, _, h => by simp at h
  | (n, k') :: r, x, k, h => by
    rw [List.lookup_cons] at h
    by_cases e : x = n
    . subst e; simp at h; subst h; exact List.mem_cons_self
    . have : (x == n) = false := by simpa using e
      rw [this] at h
      exact List.mem_cons_of_mem _ (lookup_mem h)
theorem clOf_spec {cells : List (Str × Addr)} : ∀ (names : List (Str × NameKind)) (acc : List (Str × Addr)) (x : Str) (c : Addr), (clOf cells names acc).lookup x = some c -> (cells.lookup x = some c /\ (x, NameKind.free) ∈ names) \/ acc.lookup x = some c
  | [], acc, x, c, h => .inr h
  | (n, k) :: r, acc, x, c, h => by
    rw [clOf] at h
    rcases clOf_spec r _ x c h with ⟨h1, h2⟩ | h1
    . exact .inl ⟨h1, List.mem_cons_of_mem _ h2⟩
    . by_cases hk : k = .free
      . subst hk
        simp only [beq_self_eq_true, if_true] at h1
        cases e : cells.lookup n with
        | none => rw [e] at h1; exact .inr h1
        | some c' =>
          rw [e] at h1
          dsimp only at h1
          rw [List.lookup_cons] at h1
          by_cases ex : x = n
          . subst ex; simp at h1; subst h1; exact .inl ⟨e, List.mem_cons_self⟩
          . have : (x == n) = false := by simpa using ex
            rw [this] at h1; exact .inr h1
      . have hb : (k == NameKind.free) = false := by simpa using hk
        rw [hb] at h1; exact .inr h1
theorem clOf_acc {cells : List (Str × Addr)} : ∀ (names : List (Str × NameKind)) (acc : List (Str × Addr)) (x : Str), (acc.lookup x).isSome = true -> ((clOf cells names acc).lookup x).isSome = true
  | [], acc, x, h => h
  | (n, k) :: r, acc, x, h => by
    rw [clOf]
    refine clOf_acc r _ x ?_
    split
    . split
      . rw [List.lookup_cons]; split
        . rfl
        . exact h
      . exact h
    . exact h
theorem clOf_has {cells : List (Str × Addr)} : ∀ (names : List (Str × NameKind)) (acc : List (Str × Addr)) (x : Str) (c : Addr), (x, NameKind.free) ∈ names -> cells.lookup x = some c -> ((clOf cells names acc).lookup x).isSome = true
  | (n, k) :: r, acc, x, c, hm, e => by
    rw [clOf]
    rcases List.mem_cons.mp hm with z | z
    . cases z
      refine clOf_acc r _ _ ?_
      simp [e]
    . exact clOf_has r _ x c z e
section
variable {X : Cx} {own : List Str} {scope : Scope} {C : Addr} {fp : List Addr} {s : Shared} {H : Hp}
theorem relabel_lookup {env : Env} : ∀ {names : List (Str × NameKind)} {x : Str} {k : NameKind},
    (names.map fun (n, k) => if (k == NameKind.free && env.scope.kind == .function && env.kindOf n == some .cell) then (n, NameKind.cell) else (n, k)).lookup x = some k ->
    ∃ k', names.lookup x = some k' /\ (k = k' \/ (k = .cell /\ k' = .free))
  | [], _, _, h => by simp at h
  | (n, k0) :: r, x, k, h => by
    have ih := @relabel_lookup env r x k
    rw [List.map_cons] at h
    by_cases ex : x = n
    . subst ex
      refine ⟨k0, by simp, ?_⟩
      dsimp only at h
      split at h
      . rename_i hc
        simp at h
        have : k0 = .free := by
          simp only [Bool.and_eq_true, beq_iff_eq] at hc
          exact hc.1.1
        exact .inr ⟨h.symm, this⟩
      . simp at h; exact .inl h.symm
    . have hb : (x == n) = false := by simpa using ex
      have h2 : (r.map fun (n, k) => if (k == NameKind.free && env.scope.kind == .function && env.kindOf n == some .cell) then (n, NameKind.cell) else (n, k)).lookup x = some k := by
        dsimp only at h
        split at h <;> (rw [List.lookup_cons, hb] at h; exact h)
      obtain ⟨k', e, q⟩ := ih h2
      exact ⟨k', by rw [List.lookup_cons, hb]; exact e, q⟩
theorem relabel_local {env : Env} {x : Str} : (relabel scope env).names.lookup x = some .local -> scope.names.lookup x = some .local := fun h => by
  obtain ⟨k', e, q⟩ := relabel_lookup (env := env) h
  rcases q with q | ⟨q, _⟩
  . rw [e, <- q]
  . cases q
theorem relabel_cf {env : Env} {x : Str} (nc : ∀ y ∈ scope.names, y.2 ≠ .cell) : ((relabel scope env).names.lookup x = some .cell \/ (relabel scope env).names.lookup x = some .free) -> scope.names.lookup x = some .free := fun h => by
  rcases h with h | h
  . obtain ⟨k', e, q⟩ := relabel_lookup (env := env) h
    rcases q with q | ⟨_, q⟩
    . rw [<- q] at e; exact absurd rfl (nc _ (lookup_mem e))
    . rw [e, q]
  . obtain ⟨k', e, q⟩ := relabel_lookup (env := env) h
    rcases q with q | ⟨q, _⟩
    . rw [e, <- q]
    . cases q
theorem cxComp_ok {pins : List (Addr × Obj)} {σ : St} (S : CompScope own X.N X.env.scope scope) (I : Inv X pins σ H s) (hC : s.heap.objs.size <= C) (hf : ∀ b ∈ fp, FpOk X pins H b) (ho : ∀ b ∈ fp, ∃ o, s.heap.get? b = some o) : (cxComp X own scope C fp s H).Ok := by
  have cl : ∀ x c, (clOf X.env.cells scope.names []).lookup x = some c -> X.env.cells.lookup x = some c /\ (x, NameKind.free) ∈ scope.names := fun x c e => by
    rcases clOf_spec _ _ _ _ e with q | q
    . exact q
    . simp at q
  refine ⟨I.ok.mod, S.kind, I.ok.glob, I.ok.blt, hC, fun x y c h1 h2 => I.ok.inj x y c (cl x c h1).1 (cl y c h2).1, fun x hx => ?_, fun x c h1 h2 => ?_, I.ok.hd, I.ok.frames, .inl rfl, fun b hb => ⟨?_, fun x c e => (hf b hb).2.2.2.2.1 x c (cl x c e).1⟩, I.bs, Nat.le_trans I.ok.bsz I.sz, fun b o e hb => ?_, fun b hb z => ?_, I.stack, I.stkFree⟩
  . have hx' : ((relabel scope X.env).names.lookup x = some .cell \/ (relabel scope X.env).names.lookup x = some .free) := hx
    have q := relabel_cf S.nocell hx'
    have m := lookup_mem q
    obtain ⟨c, e⟩ := I.ok.has x (by rcases S.up _ m rfl with z | z; exact .inl z; exact .inr z)
    exact Option.isSome_iff_exists.mp (clOf_has scope.names [] x c m e)
  . have h1' : own.contains x = true := h1
    have m := (cl x c h2).2
    have l := S.ow x (by simpa using h1')
    rw [S.fr _ m rfl] at l; cases l
  . obtain ⟨o, e⟩ := ho b hb
    exact Nat.ne_of_lt (Nat.lt_of_lt_of_le (Heap.lt_size e) hC)
  . rcases (hf b hb).2.2.2.1 with z | z
    . exact I.ok.noex b o e z
    . exact absurd (Nat.lt_of_lt_of_le (Heap.lt_size e) (Nat.le_trans I.ok.bsz z)) (Nat.lt_irrefl _)
  . have z' : b ∈ frs X.stack := z
    rcases List.mem_cons.mp (I.stkSub b z') with q | q
    . exact (hf b hb).2.1 q
    . exact (hf b hb).2.2.1 q
theorem cxComp_inv {pins : List (Addr × Obj)} {σ : St} {h' : Heap} {t' : Nat} {m : Str -> Option Value} {H' : Hp} (S : CompScope own X.N X.env.scope scope) (I : Inv X pins σ H s) (hC : s.heap.objs.size <= C) (hf : ∀ b ∈ fp, FpOk X pins H b) (ho : ∀ b ∈ fp, ∃ o, s.heap.get? b = some o)
    (hk : ∀ b o, s.heap.get? b = some o -> h'.get? b = some o) (hn : h'.Ns C m) (hU : Un (frs X.stack) fp H H' s.heap h') (hok : HOk X.prog X.w H' h') (hC0 : H' C = none) (hle : ∀ b, b < s.heap.objs.size -> H' b = H b) :
    Inv (cxComp X own scope C fp s H) [] (List.replicate own.length none ++ σ) H' { s with heap := h', toks := t' } := by
  have cl : ∀ x c, (clOf X.env.cells scope.names []).lookup x = some c -> X.env.cells.lookup x = some c /\ (x, NameKind.free) ∈ scope.names := fun x c e => by
    rcases clOf_spec _ _ _ _ e with q | q
    . exact q
    . simp at q
  refine ⟨cxComp_ok S I hC hf ho, rfl, I.bare, hU, ⟨m, hn, fun i x v h1 h2 h3 => ?_⟩, fun x c e => ?_, hC0, fun x c e => ?_, fun p hp => ?_, hok, ?_⟩
  . have h1' : (maskN own X.N)[i]? = some x := h1
    by_cases hi : i < own.length
    . rw [List.getElem?_append_left (by simpa using hi), List.getElem?_replicate] at h2
      split at h2 <;> cases h2
    . rw [List.getElem?_append_right (by simpa using hi), List.length_replicate] at h2
      unfold maskN at h1'
      rw [List.getElem?_append_right (by simpa using hi), List.getElem?_map] at h1'
      cases ey : X.N[i - own.length]? with
      | none => rw [ey] at h1'; cases h1'
      | some y =>
        rw [ey] at h1'
        have ex : (if own.contains y then maskS y else y) = x := by simpa using h1'
        have h3' : (relabel scope X.env).names.lookup x = some .local \/ (relabel scope X.env).names.lookup x = some .cell \/ (relabel scope X.env).names.lookup x = some .free := h3
        by_cases hyo : own.contains y = true
        . rw [if_pos hyo] at ex
          subst ex
          have none := S.mask y (by simpa using hyo)
          rcases h3' with z | z
          . rw [relabel_local z] at none; cases none
          . rw [relabel_cf S.nocell z] at none; cases none
        . rw [if_neg hyo] at ex
          subst ex
          rcases h3' with z | z
          . rcases S.only _ (lookup_mem (relabel_local z)) rfl with q | q
            . exact absurd (by simpa using q) hyo
            . exact absurd (List.mem_of_getElem? ey) q
          . have q := relabel_cf S.nocell z
            have mm := lookup_mem q
            have up := S.up _ mm rfl
            obtain ⟨m0, _, hl⟩ := I.loc
            obtain ⟨u, r, l⟩ := hl _ y v ey h2 (.inr up)
            refine ⟨u, r, .inr ⟨z, ?_⟩⟩
            rcases l with ⟨k, _⟩ | ⟨k, c, e, ic⟩
            . have k' : X.env.scope.names.lookup y = some .local := k
              rcases up with u1 | u1 <;> (rw [u1] at k'; cases k')
            . obtain ⟨c', e'⟩ := Option.isSome_iff_exists.mp (clOf_has scope.names [] y c mm e)
              have e2 := (cl y c' e').1
              rw [e] at e2; cases e2
              obtain ⟨o, g1, g2⟩ := ic
              exact ⟨c, e', o, hk _ _ g1, g2⟩
  . obtain ⟨v, o, g1, g2⟩ := I.cell x c (cl x c e).1
    exact ⟨v, o, hk _ _ g1, g2⟩
  . obtain ⟨v, o, g1, g2⟩ := I.cell x c (cl x c e).1
    rw [hle c (Heap.lt_size g1)]
    exact I.freeC x c (cl x c e).1
  . exact absurd (show p ∈ ([] : List (Addr × Obj)) from hp) (by simp)
  . show (List.replicate own.length none ++ σ).length = (maskN own X.N).length
    unfold maskN
    rw [List.length_append, List.length_append, List.length_replicate, List.length_map, I.len]
theorem Inv.behind {pins : List (Addr × Obj)} {σ σ' : St} {pins' : List (Addr × Obj)} {H' : Hp} {s' : Shared} (I : Inv X pins σ H s) (hf : ∀ b ∈ fp, FpOk X pins H b) (J : Inv (cxComp X own scope C fp s H) pins' σ' H' s') : Inv X pins σ H' s' := by
  refine I.call' J.os J.base J.hok J.bare fun b hb => ?_
  obtain ⟨h0, h1, h2, h3, h4, h5⟩ := hf b hb
  exact ⟨h3, h1, h4, h5⟩
end
end L2
end
section
namespace L2
open PySem PySem.Spec PyProof.Rows
noncomputable def PTs (Y : Cx) (ifs : List Expr) (t : TT) : Prop :=
  ∀ (pins : List (Addr × Obj)) (s : Shared) (σ : St) (H : Hp) (Q : Bool -> Hp -> Prop), Inv Y pins σ H s -> t σ H Q ->
    wpAny (model Y.prog Y.w) Y.A (forIn ifs true fun c r => if r = true then do let ok <- isTrue c Y.env (eval c Y.env); pure (ForInStep.yield ok) else pure (ForInStep.yield r)) (TP Y pins σ Q) Y.xe s
noncomputable def tAll : TT := fun _ H Q => Q true H
theorem pts_nil {Y : Cx} : PTs Y [] tAll := fun _ _ _ H _ I h => wpAny_tests_nil ⟨H, I, h⟩
theorem pts_one {Y : Cx} {c : Expr} {t : TT} (h : PT Y c t) : PTs Y [c] t := fun pins s σ H Q I q => wpAny_tests_one (h pins s σ H Q I q)
noncomputable def CompW (no : Nat) (J : It) (g : TG) (tt : TT) (te : TE) (σ : St) (H1 : Hp) (Q : VK) : Prop := ∀ D, H1 D = none ->
  ∃ W : Nat -> Nat -> St -> Hp -> Prop, (∃ m, W 0 m (List.replicate no none ++ σ) (upd H1 D (.lst []))) /\ ∀ i m σ' H', W i m σ' H' ->
    (J.stop i H' /\ Q (.ref D) H') \/ (J.go i H' /\ ∀ x H2, J.yld i H' x H2 -> g x σ' H2 fun σ3 H3 => tt σ3 H3 fun b H4 =>
      if b = true then te σ3 H4 fun v H5 => ∃ xs, H5 D = some (.lst xs) /\ xs.length < sizeLine /\ ∃ m', m' < m /\ W (i + 1) m' σ3 (upd H5 D (.lst (xs ++ [v]))) else ∃ m', m' < m /\ W (i + 1) m' σ3 H4)
noncomputable def tCompB (no : Nat) (wi : TI) (g : TG) (tt : TT) (te : TE) : TE := fun σ H Q => wi σ H fun J H1 => CompW no J g tt te σ H1 Q
section
variable {X : Cx} {own : List Str} {scope : Scope} {elt tg iter : Expr} {ifs : List Expr} {pos : Pos} {wi : TI} {g : TG} {tt : TT} {te : TE}
theorem comp_block {pins : List (Addr × Obj)} {σ : St} {H : Hp} {s : Shared} {it : Addr} {fp : List Addr} {tn : Nat -> Heap -> Prop} {J : It} {Q : VK} {RR : Value -> Addr -> Result -> Shared -> Prop} {E : Value -> Shared -> Prop}
    (hc : X.calm = true) (S : CompScope own X.N X.env.scope scope)
    (hg : ∀ C fp s H, PG (cxComp X own scope C fp s H) tg g) (ht : ∀ C fp s H, PTs (cxComp X own scope C fp s H) ifs tt) (he : ∀ C fp s H, PE (cxComp X own scope C fp s H) elt te)
    (I : Inv X pins σ H s) (T : Turn X.prog X.w X.K tg J fp it tn) (st : tn 0 s.heap) (hf : ∀ b ∈ fp, FpOk X pins H b)
    (h : CompW own.length J g tt te σ H Q)
    (hRR : ∀ D C s' H' m, Inv X pins σ H' s' -> s'.heap.Ns C m -> H' C = none -> s.heap.objs.size <= C -> Q (.ref D) H' -> RR (.ref D) C (.ok .next) s') :
    wpAny (model X.prog X.w) X.A (newList []) (fun acc s₃ => wpAny (model X.prog X.w) X.A (newFunctionEnv scope X.env.globals (clOf X.env.cells scope.names []) [] X.env.qual none .none (some X.env)) (fun cenv s₄ =>
      codeAny (model X.prog X.w) X.A (.compStart (.ListComp elt [⟨tg, iter, ifs, 0⟩] scope pos) 0 (.ref it) acc { cenv with scope := relabel scope X.env }) (RR acc cenv.locals) s₄) E s₃) E s := by
  refine wpAny_newObj_type (wpAny_newFunctionEnv S.nocell (by intro y hy; simp at hy) (fun h₁ hns₁ hsb₁ => ?_) S.kind)
  dsimp only at hns₁ hsb₁ ⊢
  generalize hH2 : s.heap.push { cls := .type "list", dict := none, data := .seq ([] : List Value).toArray } = H2 at hns₁ hsb₁ ⊢
  have hC : H2.objs.size = s.heap.objs.size + 1 := by rw [<- hH2, Heap.size_push]
  have hDC : s.heap.objs.size ≠ H2.objs.size := by rw [hC]; exact Nat.ne_of_lt (Nat.lt_succ_self _)
  have hCle : s.heap.objs.size <= H2.objs.size := by rw [hC]; exact Nat.le_succ _
  have below : ∀ b, b < s.heap.objs.size -> b ≠ H2.objs.size := fun b hb => by rw [hC]; exact Nat.ne_of_lt (Nat.lt_succ_of_lt hb)
  have old : ∀ b o, s.heap.get? b = some o -> h₁.get? b = some o := fun b o e => hsb₁.extBut b o (below b (Heap.lt_size e)) (Heap.get?_push_of_some _ (hH2 ▸ Heap.get?_push_of_some _ e))
  have hacc : h₁.get? s.heap.objs.size = some { cls := .type "list", dict := none, data := .seq ([] : List Value).toArray } := hsb₁.extBut _ _ hDC (Heap.get?_push_of_some _ (hH2 ▸ Heap.get?_push_size _ rfl))
  have ho : ∀ b ∈ fp, ∃ o, s.heap.get? b = some o := fun b hb => let ⟨o, e, _⟩ := T.obj _ _ st b hb; ⟨o, e⟩
  have fresh : ∀ a, s.heap.objs.size <= a -> H a = none := fun a ha => I.hok.fresh ha
  generalize hD : s.heap.objs.size = D at *
  generalize hCC : H2.objs.size = C at *
  have I1 : Inv (cxComp X own scope C fp s H) [] (List.replicate own.length none ++ σ) (upd H D (.lst [])) { s with heap := h₁, toks := s.toks + ([] : List (Str × Value)).length } := by
    refine cxComp_inv S I (by rw [hD]; exact hCle) hf ho old hns₁ (Un.laid old (by rw [hD]; exact Nat.le_refl _) (fresh D (Nat.le_refl _))) (I.hok.laid old (by rw [hD]; exact Nat.le_refl _) ?_) ?_ fun b hb => ?_
    . exact ⟨Nat.zero_le _, [], 0, .nil, hacc⟩
    . rw [upd_ne (Ne.symm hDC)]; exact fresh C hCle
    . rw [hD] at hb; rw [upd_ne (Nat.ne_of_lt hb)]
  obtain ⟨W, ⟨m0, w0⟩, turn⟩ := h D (fresh D (Nat.le_refl _))
  have fpY : ∀ {H' : Hp}, (∀ b ∈ fp, H' b = none) -> ∀ b ∈ fp, FpOk (cxComp X own scope C fp s H) [] H' b := fun hn b hb => by
    obtain ⟨q0, q1, q2, q3, q4, q5⟩ := hf b hb
    refine ⟨hn b hb, I1.ok.exf b hb |>.1, I1.ok.exfs b hb, .inl hb, I1.ok.exf b hb |>.2, fun p hp => absurd (show p ∈ ([] : List (Addr × Obj)) from hp) (by simp)⟩
  have loop : codeAny (model X.prog X.w) X.A (.compLoop (.ListComp elt [⟨tg, iter, ifs, 0⟩] scope pos) 0 (.ref it) (.ref D) (compEnvC scope (clOf X.env.cells scope.names []) C X.env)) (RR (.ref D) C) { s with heap := h₁, toks := s.toks + ([] : List (Str × Value)).length } := by
    refine compLoop_any (fun n s' => ∃ i σ' H', Inv (cxComp X own scope C fp s H) [] σ' H' s' /\ tn i s'.heap /\ (∀ b ∈ fp, H' b = none) /\ W i n σ' H') ?_ m0
      ⟨0, _, _, I1, T.keep _ _ _ st fun b _ o e => old b o e, fun b hb => ?_, w0⟩
    . rintro n s3 ⟨i, σ3, H3, I3, st3, fr3, w3⟩
      rcases turn i n σ3 H3 w3 with ⟨stop, qn⟩ | ⟨go, step⟩
      . refine thn (T.done (cxComp X own scope C fp s H) rfl rfl rfl hc i [] s3 σ3 H3 _ I3 (fpY fr3) st3 stop) fun r s4 ⟨hr, I4⟩ => ?_
        subst hr
        obtain ⟨m, hm, _⟩ := I4.loc
        exact hRR D C s4 H3 m (I.behind hf I4) hm I4.free hCle qn
      . refine thn (T.item (cxComp X own scope C fp s H) rfl rfl rfl hc i [] s3 σ3 H3 _ I3 (fpY fr3) st3 go) fun r s4 ⟨u, hr, h4⟩ => ?_
        subst hr
        dsimp only
        refine thn h4 fun _ s5 ⟨x, H5, I5, r5, y5, st5, fr5⟩ => ?_
        have I5' := I5.pinned (fpY fr5) (T.obj _ _ st5)
        refine thn (hg C fp s H _ s5 σ3 H5 x u _ I5' r5 (step x H5 y5)) fun _ s6 ⟨σ6, H6, I6, q6⟩ => ?_
        refine thn (ht C fp s H _ s6 σ6 H6 _ I6 q6) fun b s7 ⟨H7, I7, q7⟩ => ?_
        have again : ∀ {s8 : Shared} {σ7 : St} {H7 : Hp}, Inv (cxComp X own scope C fp s H) ([] ++ pinsAt fp s5.heap) σ7 H7 s8 -> (∃ m', m' < n /\ W (i + 1) m' σ7 H7) -> ∃ m, m < n /\ ∃ i σ' H', Inv (cxComp X own scope C fp s H) [] σ' H' s8 /\ tn i s8.heap /\ (∀ b ∈ fp, H' b = none) /\ W i m σ' H' := fun {s8 σ7 H7} I7 n7 => by
          obtain ⟨m', hm, w7⟩ := n7
          refine ⟨m', hm, i + 1, σ7, H7, I7.unpinned, T.keep _ _ _ st5 fun b hb o e => (I7.pin (b, o) (List.mem_append_right _ (List.mem_append_right _ (mem_pinsAt hb e)))).1, fun b hb => ?_, w7⟩
          obtain ⟨o, e, d⟩ := T.obj _ _ st5 b hb
          exact (I7.pin (b, o) (List.mem_append_right _ (List.mem_append_right _ (mem_pinsAt hb e)))).2.1
        cases b with
        | false =>
          rw [if_neg (by simp)] at q7
          exact again I7 q7
        | true =>
          rw [if_pos rfl] at q7 ⊢
          refine thn (he C fp s H _ s7 σ6 H7 _ I7 q7) fun u8 s8 ⟨v, H8, I8, r8, xs, hx, hz, q8⟩ => ?_
          refine thn (mt_append (X := cxComp X own scope C fp s H) _ s8 σ6 H8 (.ref D) [v] (.ref D) [u8] (fun _ H9 => ∃ m', m' < n /\ W (i + 1) m' σ6 H9) I8 rfl (.cons r8 .nil) ⟨D, xs, v, rfl, rfl, hx, hz, q8⟩) fun _ s9 ⟨_, H9, I9, _, q9⟩ => ?_
          exact again I9 q9
    . have lt : b < D := by
        obtain ⟨o, e⟩ := ho b hb
        exact hD ▸ Heap.lt_size e
      rw [upd_ne (Nat.ne_of_lt lt)]
      exact (hf b hb).1
  exact codeAny_compStart_list loop (T.self _ 0 _ _ _ (T.keep _ _ _ st fun b _ o e => old b o e) loop)
theorem comp_clos {pins : List (Addr × Obj)} {σ : St} {H : Hp} {s : Shared} (S : CompScope own X.N X.env.scope scope) (I : Inv X pins σ H s) : closureFor scope X.env = pure (clOf X.env.cells scope.names []) :=
  closureFor_eq fun y hy hk => I.ok.has y.1 (by rcases S.up y hy hk with z | z; exact .inl z; exact .inr z)
theorem Inv.letgo {pins : List (Addr × Obj)} {σ : St} {H' : Hp} {s' : Shared} {h' : Heap} {C : Addr} {z : Nat} (I : Inv X pins σ H' s') (hC : H' C = none) (h0 : X.s₀.heap.objs.size <= z) (hz : z <= C) (hL : X.env.locals < z) (hcl : ∀ x c, X.env.cells.lookup x = some c -> c < z) (hp : ∀ p ∈ X.pn ++ pins, p.1 < z) (hs : Heap.SameBut C s'.heap h') : Inv X pins σ H' { s' with heap := h' } :=
  I.turned (t' := s'.toks) (it := C) (fun b o hb e => hs.extBut b o hb e) hC (Nat.ne_of_gt (Nat.lt_of_lt_of_le hL hz)) (.inr (Nat.le_trans h0 hz)) (fun x c e => Nat.ne_of_lt (Nat.lt_of_lt_of_le (hcl x c e) hz)) fun p hq => Nat.ne_of_lt (Nat.lt_of_lt_of_le (hp p hq) hz)
theorem pe_comp {N0 P0 : List Str} {sc : Scope} (S0 : FnScope N0 P0 sc) (hc : X.calm = true) (S1 : CompScope own N0 sc scope) (hi : PI X tg iter wi)
    (hg : ∀ C fp s H, (maskN own N0).Nodup -> PG (cxComp X own scope C fp s H) tg g) (ht : ∀ C fp s H, PTs (cxComp X own scope C fp s H) ifs tt) (he : ∀ C fp s H, PE (cxComp X own scope C fp s H) elt te)
    (hs : ∀ x, foldedSetIterable iter X.env x = pure x := by intro _; rfl) (hN0 : X.N = N0 := by rfl) (hsc : X.env.scope = sc := by rfl) : PE X (.ListComp elt [⟨tg, iter, ifs, 0⟩] scope pos) (tCompB own.length wi g tt te) := by
  intro pins s σ H Q I h
  subst hN0 hsc
  have S := S1
  replace hg := fun C fp s H => hg C fp s H S1.nd
  rw [eval_ListComp]
  refine wpAny_comprehension_free (use := none) rfl hs (comp_clos S I) S.kind S.loc (thn (hi pins s σ H _ I h) fun xv s₁ h₁ => thn h₁ fun itv s₂ h₂ => ?_)
  obtain ⟨it, fp, tn, J, H2, rfl, I2, T, st2, f2, q2⟩ := h₂
  refine comp_block (Q := Q) hc S hg ht he I2 T st2 f2 q2 ?_
  intro D C s' H' m I' hm hC hCle q
  refine ⟨m, hm, fun h' hs' => ⟨.ref D, H', ?_, rfl, q⟩⟩
  exact I'.letgo hC I2.sz hCle I2.lt (fun x c e => let ⟨v, z⟩ := I2.cell x c e; z.lt) (fun p hp => Heap.lt_size (I2.pin p hp).1) hs'
theorem ps_comp {i : Nat} {x : Str} {pos' spos : Pos} {N0 P0 : List Str} {sc : Scope} (S0 : FnScope N0 P0 sc) (hc : X.calm = true) (S1 : CompScope own N0 sc scope) (hi : PI X tg iter wi)
    (hg : ∀ C fp s H, (maskN own N0).Nodup -> PG (cxComp X own scope C fp s H) tg g) (ht : ∀ C fp s H, PTs (cxComp X own scope C fp s H) ifs tt) (he : ∀ C fp s H, PE (cxComp X own scope C fp s H) elt te)
    (hN : X.N.Nodup) (hiN : X.N[i]? = some x) (hx : Loc X.env.scope x)
    (hsw : swapsWith (.ListComp elt [⟨tg, iter, ifs, 0⟩] scope pos) (some (.Name x pos')) spos.line X.env = pure true)
    (hs : ∀ x, foldedSetIterable iter X.env x = pure x := by intro _; rfl) (hf : X.fn x = true \/ X.env.scope.names.lookup x = some .local := by first | exact .inl rfl | exact .inr rfl | assumption) (hN0 : X.N = N0 := by rfl) (hsc : X.env.scope = sc := by rfl) :
    PS X (.Assign [.Name x pos'] (.ListComp elt [⟨tg, iter, ifs, 0⟩] scope pos) spos) (tAsg (tCompB own.length wi g tt te) (gName i)) := by
  intro pins s σ H D I h
  subst hN0 hsc
  have S := S1
  replace hg := fun C fp s H => hg C fp s H S1.nd
  rw [exec_Assign_Name_used _ _ _ _ hsw]
  refine wpAny_bind (wpAny_standAt (wpAny_bind ?_))
  show wpAny _ X.A (do let _ <- comprehension (.ListComp elt [⟨tg, iter, ifs, 0⟩] scope pos) scope X.env _ (newList []) false (eval iter X.env) (some (assign (.Name x pos') X.env))) _ _ s
  refine wpAny_bind (wpAny_mono (wpAny_comprehension_free (use := some (assign (.Name x pos') X.env)) (Q := fun _ s' => SP X pins D .next s') rfl hs (comp_clos S I) S.kind S.loc
    (thn (hi pins s σ H _ I h) fun xv s₁ h₁ => thn h₁ fun itv s₂ h₂ => ?_)) (fun _ s' hq => wpAny_pure (wpAny_pure hq)) fun _ _ e => e)
  obtain ⟨it, fp, tn, J, H2, rfl, I2, T, st2, f2, q2⟩ := h₂
  refine comp_block (Q := fun v H => D.nx (σ.set i (some v)) H) hc S hg ht he I2 T st2 f2 q2 ?_
  intro Dl C s' H' m I' hm hC hCle q
  have hL := I2.lt
  have hcl : ∀ x c, X.env.cells.lookup x = some c -> c < s₂.heap.objs.size := fun x c e => let ⟨v, z⟩ := I2.cell x c e; z.lt
  show wpAny _ X.A (assign (.Name x pos') X.env (.ref Dl)) _ _ _
  refine wpAny_assign_Name (store_ok2 I' hN hiN hx (v := .ref Dl) rfl (fun s'' I'' ⟨a, sb, ha⟩ => ?_) hf)
  have ne : C ≠ a := by
    rcases ha with rfl | ha
    . exact Nat.ne_of_gt (Nat.lt_of_lt_of_le hL hCle)
    . exact Nat.ne_of_gt (Nat.lt_of_lt_of_le (hcl _ _ ha) hCle)
  refine ⟨m, hm.sameBut sb ne, fun h' hs' => ⟨_, H', ?_, q⟩⟩
  exact I''.letgo hC I2.sz hCle hL hcl (fun p hp => Heap.lt_size (I2.pin p hp).1) hs'
end
end L2
end
section
namespace L2
open PySem PySem.Spec PyProof.Rows
open PySem.W (Dat kqdP kqdPs kqdOk)
section
variable {X : Cx}
theorem op_mulB : OpR X (binaryOp .Mult) (rI IntMulOk fun i j => .int (i * j)) := opI fun _ _ _ _ _ _ _ hc q => mul_int q hc
noncomputable def CDivB (i j : Int) : Prop := j ≠ 0 /\ j.natAbs.log2 < 9000
theorem op_fdivB : OpR X (binaryOp .FloorDiv) (rI CDivB fun i j => .int (i.fdiv j)) := opI fun _ _ _ _ _ _ _ hc q => floordiv_int hc.1 q (.inl (PyProof.noPylong_of_log2 hc.2))
end
mutual
inductive Is (K : PySem.W.Frag) (H : Hp) : V -> Dat -> Prop
  | none : Is K H .non .none
  | bool (b : Bool) : Is K H (.bl b) (.bool b)
  | int (i : Int) : Is K H (.int i) (.int i)
  | str (x : Str) : Is K H (.str x) (.str x)
  | tup {a : Addr} {xs : List V} {ds : List Dat} : SqT K H a xs -> Iss K H xs ds -> Is K H (.ref a) (.tuple ds)
  | lst {a : Addr} {xs : List V} {ds : List Dat} : SqL K H a xs -> Iss K H xs ds -> Is K H (.ref a) (.list ds)
inductive Iss (K : PySem.W.Frag) (H : Hp) : List V -> List Dat -> Prop
  | nil : Iss K H [] []
  | cons {x : V} {d : Dat} {xs : List V} {ds : List Dat} : Is K H x d -> Iss K H xs ds -> Iss K H (x :: xs) (d :: ds)
end
theorem Same.tup {K : PySem.W.Frag} {H H' : Hp} {a : Addr} {xs : List V} (e : Same H H') (h : SqT K H a xs) : SqT K H' a xs := by
  rcases h with (h | ⟨o, h⟩) | h
  . exact .inl (.inl (e _ _ h))
  . exact .inl (.inr ⟨o, e _ _ h⟩)
  . exact .inr h
theorem Same.new {H : Hp} {p : Addr} (h : H p = Option.none) (o : HO) : Same H (upd H p o) := fun b u q => by rw [upd_ne (ne_of_none q h)]; exact q
section
variable {K : PySem.W.Frag} {H H' : Hp}
end
section
variable {X : Cx} {pins : List (Addr × Obj)} {σ : St} {H : Hp} {s : Shared}
mutual
theorem Is.reads (I : Inv X pins σ H s) : ∀ {v : V} {d : Dat} {u : Value}, Is X.K H v d -> RelV v u -> ∃ as, Reads s.heap u (kqdP d) as
  | _, _, _, .none, r => by cases (show _ = Value.none from r); exact ⟨_, .none⟩
  | _, _, _, .bool b, r => by cases (show _ = Value.bool b from r); exact ⟨_, .bool b⟩
  | _, _, _, .int i, r => by obtain ⟨t, rfl⟩ := r; exact ⟨_, .int i t⟩
  | _, _, _, .str x, r => by obtain ⟨t, rfl⟩ := r; exact ⟨_, .str x t⟩
  | _, _, _, .tup (a := a) h q, r => by
    cases (show _ = Value.ref a from r)
    obtain ⟨its, rv, ⟨o, e, c, n, d⟩, _⟩ := I.tuple h
    obtain ⟨as, z⟩ := Iss.reads I q rv
    rw [kqdP]
    exact ⟨as, .tuple e c d (by simpa using z)⟩
  | _, _, _, .lst (a := a) h q, r => by
    cases (show _ = Value.ref a from r)
    obtain ⟨its, rv, ⟨o, n, e, c, _, d⟩, _⟩ := I.list h
    obtain ⟨as, z⟩ := Iss.reads I q rv
    rw [kqdP]
    exact ⟨_, .list e c d (by simpa using z)⟩
theorem Iss.reads (I : Inv X pins σ H s) : ∀ {v : List V} {d : List Dat} {u : List Value}, Iss X.K H v d -> Vals v u -> ∃ as, ReadsAll s.heap u (kqdPs d) as
  | _, _, _, .nil, .nil => ⟨_, .nil⟩
  | _, _, _, .cons a r, .cons b t => by
    obtain ⟨as, p⟩ := Is.reads I a b
    obtain ⟨bs, q⟩ := Iss.reads I r t
    rw [kqdPs]
    exact ⟨_, .cons p q⟩
end
end
open Classical in
noncomputable def deq (d e : Dat) : Bool := decide (d = e)
open Classical in
theorem deq_self (d : Dat) : deq d d = true := decide_eq_true rfl
open Classical in
theorem deq_true {d e : Dat} (h : d = e) : deq d e = true := decide_eq_true h
open Classical in
theorem deq_ne {d e : Dat} (h : d ≠ e) : deq d e = false := decide_eq_false h
noncomputable def rEqD (K : PySem.W.Frag) (n : Bool) : R2 := fun x y H Q => ∃ d e, Is K H x d /\ Is K H y e /\ kqdOk 9 d = true /\ kqdOk 9 e = true /\ Q (.bl (if n then !deq d e else deq d e)) H
theorem eqv_deq {d e : Dat} (h1 : kqdOk 9 d = true) (h2 : kqdOk 9 e = true) : PyData.eqv (kqdP d) (kqdP e) = deq d e := by
  have q := PySem.W.kqd_eqv 9 d e 9 h1 h2
  by_cases z : d = e
  . rw [deq_true z]; exact q.mpr z
  . rw [deq_ne z]; exact Bool.eq_false_iff.mpr fun x => z (q.mp x)
theorem shaped9 {d : Dat} (h : kqdOk 9 d = true) : SeqAt.shaped (kqdP d) = true := by
  have l := PySem.W.kqd_lay 9 d h
  unfold SeqAt.shaped
  rw [l.1, Bool.true_and]
  exact decide_eq_true (Nat.le_trans l.2 (by decide))
section
variable {X : Cx}
theorem op_eqD (hu : X.A.units + 64 < cLine) : OpR X (compareOp .Eq) (rEqD X.K false) := by
  intro pins s σ H x y v u Q I rx ry h
  obtain ⟨d, e, hd, he, o1, o2, q⟩ := h
  obtain ⟨as, ra⟩ := hd.reads I rx
  obtain ⟨bs, rb⟩ := he.reads I ry
  refine PyProof.Rows.eq_dataH ra rb (shaped9 o1) (shaped9 o2) hu ?_
  rw [eqv_deq o1 o2]
  exact ⟨.bl _, H, I, rfl, q⟩
theorem op_neD (hu : X.A.units + 64 < cLine) : OpR X (compareOp .NotEq) (rEqD X.K true) := by
  intro pins s σ H x y v u Q I rx ry h
  obtain ⟨d, e, hd, he, o1, o2, q⟩ := h
  obtain ⟨as, ra⟩ := hd.reads I rx
  obtain ⟨bs, rb⟩ := he.reads I ry
  refine PyProof.Rows.ne_dataH ra rb (shaped9 o1) (shaped9 o2) hu ?_
  rw [eqv_deq o1 o2]
  exact ⟨.bl _, H, I, rfl, q⟩
theorem call_sumL (hc : X.calm = true) : CallR X (.builtin "sum") (fun xs H Q => ∃ (a : Addr) (ns : List Int), xs = [.ref a] /\ SqL X.K H a (ns.map V.int) /\ Q (.int ns.sum) H) := by
  intro pins s σ H xs us Q I r h
  obtain ⟨a, ns, rfl, hl, q⟩ := h
  cases r with
  | cons r1 r2 =>
    cases r2
    cases (show _ = Value.ref a from r1)
    obtain ⟨its, rv, pl, _⟩ := I.list hl
    obtain ⟨m, F⟩ := I.fr
    have hi : IntsAre its ns := intsAre_of rv
    obtain ⟨xs, hxs⟩ := (IntsAre.allInts hi).items
    have e : numsOf its = ns := hi.numsOf
    refine sum_intListG (xs := xs) (I.ok.hd hc) (by rw [<- hxs]; exact pl.isList) fun h' tk t' hk => ?_
    refine ⟨.int ns.sum, H, I.kept (t' := tk) hk, ⟨t', ?_⟩, q⟩
    have e2 : numsOf its = (xs.map Prod.fst).toList := by
      have := nums_intItems (xs := xs)
      rw [<- hxs] at this
      simpa using this
    rw [preSum_eq, List.take_of_length_le (by simp)]
    rw [<- e, e2, Array.toList_map]
theorem call_isi {b : Bool} {T U : String} (e : ∀ K, PySem.W.kitOne K (.type U) (.type T) = some b) : CallR X (.builtin "isinstance") (fun xs H Q => ∃ x, xs = [x, .ty T] /\ TyOf X.K H x (.type U) /\ Q (.bl b) H) := by
  intro pins s σ H xs us Q I r h
  obtain ⟨x, rfl, ty, q⟩ := h
  cases r with
  | cons r1 r2 =>
    cases r2 with
    | cons r3 r4 =>
      cases r4
      cases (show _ = Value.type T from r3)
      exact isinst_ok I r1 ty (e _) fun tk => ⟨.bl b, H, I.tok tk, rfl, q⟩
end
end L2
end
section
namespace L2
open PySem PySem.Spec PyProof.Rows
section
variable {prog : Program} {w : World} {A : Around} {E : Value -> Shared -> Prop} {s : Shared}
theorem tupNext {it t : Addr} {i : Nat} {its : Array Value} {x : Value} {Q : Value -> Shared -> Prop} (hit : s.heap.IsTupleIter it t i) (ht : s.heap.IsTuple t its) (hx : its[i]? = some x)
    (k : ∀ g, g.IsTupleIter it t (i + 1) -> Heap.SameBut it s.heap g -> Q x { s with heap := g }) : wpAny (model prog w) A (Builtin.SmallTypes.nextOf (.ref it)) Q E s := by
  obtain ⟨o, g1, g2, g3⟩ := id hit
  obtain ⟨p, q1, _, n, q2⟩ := ht
  unfold Builtin.SmallTypes.nextOf
  refine wpAny_bind (wpAny_callSpecial?_slot (name := Str.ofString "__next__") hit.typeIs F.slot_tuple_iterator_next (wpAny_call_entry F.slot_tuple_iterator_next hit.typeIs F.entry_tuple_iterator_next ?_ (F.args_tuple_iterator_next_1 _)))
  show wpAny _ _ (field (.ref it) 0 >>= _) _ _ s; refine wpAny_bind (wpAny_field g1 g3 (x := .ref t) rfl ?_); show wpAny _ _ (if (Value.ref t == Value.none) = true then _ else _) _ _ s
  rw [if_neg (show ¬ ((Value.ref t == Value.none) = true) from Bool.false_ne_true)]; show wpAny _ _ (field (.ref it) 1 >>= _) _ _ s; refine wpAny_bind (wpAny_field g1 g3 (x := .int i 0) rfl ?_)
  show wpAny _ _ (seqItems? (.ref t) >>= _) _ _ s; refine wpAny_bind (wpAny_seqItems q1 q2 ?_); simp only [Int.toNat_natCast, hx]
  refine wpAny_bind (wpAny_setField g1 g3 (by simp) (wpAny_pure ⟨x, rfl, wpAny_pure (k _ ⟨_, Heap.get?_update_self _ g1 (Obj.isFreed_of_fields (Obj.data_mapFields g3 _)), (Obj.cls_mapFields ..).trans g2, ?_⟩ (Heap.SameBut.update ..))⟩))
  rw [Obj.data_mapFields g3]; simp [rawInt]
theorem tupEnd {it t : Addr} {i : Nat} {its : Array Value} {Q : Value -> Shared -> Prop} (hh : A.handled = none) (hit : s.heap.IsTupleIter it t i) (ht : s.heap.IsTuple t its) (hx : its[i]? = none)
    (k : ∀ g e, Heap.ExtBut it s.heap g -> (∃ o, g.get? e = some o /\ o.cls = .type "StopIteration") -> E (.ref e) { s with heap := g }) : wpAny (model prog w) A (Builtin.SmallTypes.nextOf (.ref it)) Q E s := by
  obtain ⟨o, g1, g2, g3⟩ := id hit
  obtain ⟨p, q1, _, n, q2⟩ := ht
  unfold Builtin.SmallTypes.nextOf
  refine wpAny_bind (wpAny_callSpecial?_slot (name := Str.ofString "__next__") hit.typeIs F.slot_tuple_iterator_next (wpAny_call_entry F.slot_tuple_iterator_next hit.typeIs F.entry_tuple_iterator_next ?_ (F.args_tuple_iterator_next_1 _)))
  show wpAny _ _ (field (.ref it) 0 >>= _) _ _ s; refine wpAny_bind (wpAny_field g1 g3 (x := .ref t) rfl ?_); show wpAny _ _ (if (Value.ref t == Value.none) = true then _ else _) _ _ s
  rw [if_neg (show ¬ ((Value.ref t == Value.none) = true) from Bool.false_ne_true)]; show wpAny _ _ (field (.ref it) 1 >>= _) _ _ s; refine wpAny_bind (wpAny_field g1 g3 (x := .int i 0) rfl ?_)
  show wpAny _ _ (seqItems? (.ref t) >>= _) _ _ s; refine wpAny_bind (wpAny_seqItems q1 q2 ?_); simp only [Int.toNat_natCast, hx]
  refine wpAny_bind (wpAny_rule (wpAny_bind (wpAny_setField g1 g3 (by simp) ?_))); show wpAny _ _ (newExc (.type "StopIteration") [] >>= _) _ _ _
  refine wpAny_bind ?_; simp only [newExc, newTuple]; refine wpAny_bind (wpAny_newObj_type ?_ (by size_fits))
  refine wpAny_bind (m := firstArgMember _ _) (wpAny_of_eq (a := Value.none) (by first | rfl | (simp only [firstArgMember]; rfl)) ?_); refine wpAny_newObj_type ?_ (by size_fits)
  simp only [raiseNew]; refine wpAny_bind (wpAny_handled ?_); first | rw [show A.in1.handled = none from hh] | rw [hh]
  refine wpAny_bind (wpAny_pure (wpAny_throw ?_)); exact k _ _ (((Heap.SameBut.update ..).extBut.push _).push _) ⟨_, Heap.get?_push_size _ rfl, rfl⟩
structure ZipAt (h : Heap) (z a b i1 i2 l1 l2 : Addr) (xs ys : Array Value) (k : Nat) (f : Value) : Prop where
  z : IsZip h z a b f
  a : IsPair h a (.ref i1) (.ref i2)
  b : ∃ u v, IsPair h b u v
  i1 : h.IsTupleIter i1 l1 k
  i2 : h.IsTupleIter i2 l2 k
  l1 : h.IsTuple l1 xs
  l2 : h.IsTuple l2 ys
theorem zipNext {z a b i1 i2 l1 l2 : Addr} {k : Nat} {xs ys : Array Value} {x y : Value} {Q : Option Value -> Shared -> Prop} (D : ZipApart z a b i1 i2 l1 l2) (Z : ZipAt s.heap z a b i1 i2 l1 l2 xs ys k .none) (hx : xs[k]? = some x) (hy : ys[k]? = some y)
    (kq : ∀ g, ZipAt g z a b i1 i2 l1 l2 xs ys (k + 1) (rawInt s.heap.objs.size) -> IsPair g s.heap.objs.size x y -> (∀ c o, c ≠ z -> c ≠ b -> c ≠ i1 -> c ≠ i2 -> s.heap.get? c = some o -> g.get? c = some o) -> Q (some (.ref s.heap.objs.size)) { s with heap := g }) :
    wpAny (model prog w) A (pyNext (.ref z)) Q E s := by
  obtain ⟨hz, ha, ⟨u, v, hb⟩, h1, h2, t1, t2⟩ := Z
  have hT : s.TypeIs (.ref z) "zip" := ⟨_, hz, rfl⟩
  unfold pyNext
  refine wpAny_bind (wpAny_attempt (wpAny_callSpecial?_slot (name := Str.ofString "__next__") hT F.slot_zip_next (wpAny_call_entry F.slot_zip_next hT F.entry_zip_next ?_ (F.args_zip_next_1 _))))
  show wpAny _ _ (field (.ref z) 2 >>= _) _ _ _; refine wpAny_bind (wpAny_field hz rfl (x := .bool false) rfl ?_); show wpAny _ _ (field (.ref z) 3 >>= _) _ _ _
  refine wpAny_bind (wpAny_field hz rfl (x := .ref a) rfl ?_); refine wpAny_bind (wpAny_seqItems ha rfl ?_); show wpAny _ _ (Builtin.SmallTypes.ownedTupleIsFree (.ref z) >>= _) _ _ _
  refine wpAny_bind ?_; unfold Builtin.SmallTypes.ownedTupleIsFree; refine wpAny_bind (wpAny_field hz rfl (x := .none) rfl (wpAny_pure ?_))
  simp only [if_true]; refine wpAny_bind (wpAny_rule ?_); refine wpAny_bind (wpAny_field hz rfl (x := .ref b) rfl ?_)
  refine wpAny_bind (wpAny_setField_rec hz (by simp) fun g₁ e₁ s₁ => ?_)
  replace e₁ : IsZip g₁ z a b .ellipsis := e₁
  refine wpAny_bind ?_; simp only [List.zipIdx_cons, List.zipIdx_nil, List.forIn_cons, List.forIn_nil]
  refine wpAny_bind (wpAny_bind (wpAny_onRaise ?_)); show wpAny _ _ (Builtin.SmallTypes.nextOf (.ref i1) >>= _) _ _ _
  refine wpAny_bind (tupNext (h1.extBut s₁.extBut D.i1z) (t1.extBut s₁.extBut D.l1z) hx fun g₂ f₂ s₂ => wpAny_pure ?_)
  have b₂ : IsPair g₂ b u v := s₂.extBut _ _ D.TOi1 (s₁.extBut _ _ D.TOz hb)
  refine wpAny_bind (wpAny_seqItems b₂ rfl ?_); refine wpAny_bind (wpAny_updateSeq_pair b₂ fun g₃ b₃ s₃ => ?_)
  replace b₃ : IsPair g₃ b x v := b₃
  refine wpAny_bind (wpAny_letGo (wpAny_pure ?_)); refine wpAny_bind (wpAny_bind (wpAny_onRaise ?_)); show wpAny _ _ (Builtin.SmallTypes.nextOf (.ref i2) >>= _) _ _ _
  refine wpAny_bind (tupNext (((h2.extBut s₁.extBut D.i2z).extBut s₂.extBut D.i12.symm).extBut s₃.extBut D.TOi2.symm) (((t2.extBut s₁.extBut D.l2z).extBut s₂.extBut D.l2i1).extBut s₃.extBut D.l2TO) hy fun g₄ f₄ s₄ => wpAny_pure ?_)
  have b₄ : IsPair g₄ b x v := s₄.extBut _ _ D.TOi2 b₃
  refine wpAny_bind (wpAny_seqItems b₄ rfl ?_); refine wpAny_bind (wpAny_updateSeq_pair b₄ fun g₅ b₅ s₅ => ?_)
  replace b₅ : IsPair g₅ b x y := b₅
  refine wpAny_bind (wpAny_letGo (wpAny_pure (wpAny_pure ?_))); refine wpAny_bind (wpAny_seqItems b₅ rfl ?_); refine wpAny_bind (wpAny_newTuple ?_)
  have sz : g₅.objs.size = s.heap.objs.size := by rw [s₅.1, s₄.1, s₃.1, s₂.1, s₁.1]
  have e₅ : IsZip g₅ z a b .ellipsis := s₅.extBut _ _ D.TOz.symm (s₄.extBut _ _ D.i2z.symm (s₃.extBut _ _ D.TOz.symm (s₂.extBut _ _ D.i1z.symm e₁)))
  have k₅ : ∀ c o, c ≠ z -> c ≠ b -> c ≠ i1 -> c ≠ i2 -> s.heap.get? c = some o -> g₅.get? c = some o := fun c o c1 c2 c3 c4 e => s₅.extBut _ _ c2 (s₄.extBut _ _ c4 (s₃.extBut _ _ c2 (s₂.extBut _ _ c3 (s₁.extBut _ _ c1 e))))
  have m₁ : g₅.IsTupleIter i1 l1 (k + 1) := ((f₂.extBut s₃.extBut D.TOi1.symm).extBut s₄.extBut D.i12).extBut s₅.extBut D.TOi1.symm
  have m₂ : g₅.IsTupleIter i2 l2 (k + 1) := f₄.extBut s₅.extBut D.TOi2.symm
  have lz : z < g₅.objs.size := Heap.lt_size e₅
  show wpAny _ _ (Builtin.SmallTypes.ownedTupleHandOut (.ref z) (.ref g₅.objs.size) >>= _) _ _ _; refine wpAny_bind ?_; unfold Builtin.SmallTypes.ownedTupleHandOut
  have e₆ : IsZip (g₅.push { cls := .type "tuple", data := .seq #[x, y] }) z a b .ellipsis := Heap.get?_push_of_some _ e₅
  refine wpAny_bind (wpAny_setField_rec e₆ (by simp) fun g₇ e₇ s₇ => ?_)
  replace e₇ : IsZip g₇ z a b (rawInt g₅.objs.size) := e₇
  refine wpAny_setField_rec e₇ (by simp) fun g₈ e₈ s₈ => ?_
  replace e₈ : IsZip g₈ z a b (rawInt g₅.objs.size) := e₈
  have up : ∀ c o, c ≠ z -> g₅.get? c = some o -> g₈.get? c = some o := fun c o c1 e => s₈.extBut _ _ c1 (s₇.extBut _ _ c1 (Heap.get?_push_of_some _ e))
  have p₈ : IsPair g₈ g₅.objs.size x y := s₈.extBut _ _ (Nat.ne_of_gt lz) (s₇.extBut _ _ (Nat.ne_of_gt lz) (Heap.get?_push_size _ rfl))
  rw [sz] at e₈ p₈
  refine wpAny_pure ⟨_, rfl, wpAny_pure ?_⟩
  show Q (some (.ref g₅.objs.size)) _; rw [sz]
  have all : ∀ c o, c ≠ z -> c ≠ b -> c ≠ i1 -> c ≠ i2 -> s.heap.get? c = some o -> g₈.get? c = some o := fun c o c1 c2 c3 c4 e => up c o c1 (k₅ c o c1 c2 c3 c4 e)
  exact kq g₈ ⟨e₈, all _ _ D.TIz D.TITO D.TIi1 D.TIi2 ha, ⟨_, _, up _ _ D.TOz b₅⟩, m₁.at fun o e => up _ o D.i1z e, m₂.at fun o e => up _ o D.i2z e, t1.at fun o e => all _ o D.l1z D.l1TO D.l1i1 D.l1i2 e, t2.at fun o e => all _ o D.l2z D.l2TO D.l2i1 D.l2i2 e⟩ p₈ all
theorem zipEnd {z a b i1 i2 l1 l2 : Addr} {k : Nat} {xs ys : Array Value} {Q : Option Value -> Shared -> Prop} (hh : A.handled = none) (D : ZipApart z a b i1 i2 l1 l2) (Z : ZipAt s.heap z a b i1 i2 l1 l2 xs ys k .none) (hx : xs[k]? = none)
    (kq : ∀ g, (∀ c o, c ≠ z -> c ≠ b -> c ≠ i1 -> c ≠ i2 -> s.heap.get? c = some o -> g.get? c = some o) -> Q none { s with heap := g }) : wpAny (model prog w) A (pyNext (.ref z)) Q E s := by
  obtain ⟨hz, ha, ⟨u, v, hb⟩, h1, h2, t1, t2⟩ := Z
  have hT : s.TypeIs (.ref z) "zip" := ⟨_, hz, rfl⟩
  unfold pyNext
  refine wpAny_bind (wpAny_attempt (wpAny_callSpecial?_slot (name := Str.ofString "__next__") hT F.slot_zip_next (wpAny_call_entry F.slot_zip_next hT F.entry_zip_next ?_ (F.args_zip_next_1 _))))
  show wpAny _ _ (field (.ref z) 2 >>= _) _ _ _; refine wpAny_bind (wpAny_field hz rfl (x := .bool false) rfl ?_); show wpAny _ _ (field (.ref z) 3 >>= _) _ _ _
  refine wpAny_bind (wpAny_field hz rfl (x := .ref a) rfl ?_); refine wpAny_bind (wpAny_seqItems ha rfl ?_); show wpAny _ _ (Builtin.SmallTypes.ownedTupleIsFree (.ref z) >>= _) _ _ _
  refine wpAny_bind ?_; unfold Builtin.SmallTypes.ownedTupleIsFree; refine wpAny_bind (wpAny_field hz rfl (x := .none) rfl (wpAny_pure ?_))
  simp only [if_true]; refine wpAny_bind (wpAny_rule ?_); refine wpAny_bind (wpAny_field hz rfl (x := .ref b) rfl ?_)
  refine wpAny_bind (wpAny_setField_rec hz (by simp) fun g₁ e₁ s₁ => ?_)
  replace e₁ : IsZip g₁ z a b .ellipsis := e₁
  refine wpAny_bind ?_; simp only [List.zipIdx_cons, List.zipIdx_nil, List.forIn_cons, List.forIn_nil]
  refine wpAny_bind (wpAny_bind (wpAny_onRaise ?_)); show wpAny _ _ (Builtin.SmallTypes.nextOf (.ref i1) >>= _) _ _ _
  refine wpAny_bind (tupEnd hh (h1.extBut s₁.extBut D.i1z) (t1.extBut s₁.extBut D.l1z) hx fun g₂ e s₂ he => ?_)
  obtain ⟨oe, he1, he2⟩ := he
  have e₂ : IsZip g₂ z a b .ellipsis := s₂ _ _ D.i1z.symm e₁
  have hez : e ≠ z := fun x => by subst x; rw [e₂] at he1; cases he1; simp at he2
  refine wpAny_setField_rec e₂ (by simp) fun g₃ _ s₃ => ?_
  refine wpAny_bind (wpAny_isInstance (T := "StopIteration") (b := true) ⟨oe, s₃.extBut _ _ hez he1, he2⟩ isSubtype_stop ?_)
  exact wpAny_pure (kq _ fun c o c1 _ c3 _ x => s₃.extBut _ _ c1 (s₂ _ _ c3 (s₁.extBut _ _ c1 x)))
noncomputable abbrev zh (h : Heap) (l : Addr) : Heap := h.push { cls := .type "tuple_iterator", data := .fields #[.ref l, .int 0 0] }
theorem zipNewMeets (l1 l2 : Addr) (xs ys : Array Value) :
    Meets (Builtin.«zip.__new__» ⟨[.type "zip", .ref l1, .ref l2], []⟩) (fun _ R s => s.heap.IsTuple l1 xs /\ s.heap.IsTuple l2 ys /\ ∀ g, g = (((zh (zh s.heap l1) l2).push { cls := .type "tuple", data := .seq #[.ref s.heap.objs.size, .ref (zh s.heap l1).objs.size] }).push { cls := .type "tuple", data := .seq #[.none, .none] }) ->
      R (.ok (.ret (.ref g.objs.size))) { s with heap := g.push { cls := .type "zip", data := .fields #[.none, .bool false, .bool false, .ref (zh (zh s.heap l1) l2).objs.size, .ref ((zh (zh s.heap l1) l2).push { cls := .type "tuple", data := .seq #[.ref s.heap.objs.size, .ref (zh s.heap l1).objs.size] }).objs.size] } }) :=
  .of_wp fun prog w A R s h => by
    obtain ⟨hp, g, d, tk, os⟩ := s; obtain ⟨q1, q2, h⟩ := h
    have hsub := sub_zip
    have L1 : Heap.IsTuple (Shared.heap ⟨hp, g, d, tk, os⟩) l1 xs := q1
    have L2 : Heap.IsTuple (Shared.heap ⟨zh hp l1, g, d, tk, os⟩) l2 ys := q2.at fun o e => Heap.get?_push_of_some _ e
    wp_walk using wpAny_pyIter_tuple L1, wpAny_pyIter_tuple L2
    exact ⟨_, rfl, h _ rfl⟩
theorem callZip {l1 l2 : Addr} {xs ys : Array Value} {Q : Value -> Shared -> Prop} (h1 : s.heap.IsTuple l1 xs) (h2 : s.heap.IsTuple l2 ys)
    (k : ∀ g, ZipAt g (s.heap.objs.size + 4) (s.heap.objs.size + 2) (s.heap.objs.size + 3) s.heap.objs.size (s.heap.objs.size + 1) l1 l2 xs ys 0 .none -> (∀ c o, s.heap.get? c = some o -> g.get? c = some o) -> Q (.ref (s.heap.objs.size + 4)) { s with heap := g }) :
    wpAny (model prog w) A (call (.type "zip") [.ref l1, .ref l2]) Q E s := by
  refine callType_new F.called_zip (by decide) (F.typeCall_zip_2 _ _) (F.newCall_zip_2 _ _) (fun obj => F.args_object_init_3 obj _ _) F.entry_zip_new (zipNewMeets l1 l2 xs ys) ⟨h1, h2, fun g hg => ?_⟩
  generalize e1 : zh s.heap l1 = a1 at *
  generalize e2 : zh a1 l2 = a2 at *
  generalize e3 : a2.push { cls := .type "tuple", data := .seq #[.ref s.heap.objs.size, .ref a1.objs.size] } = a3 at *
  have n1 : a1.objs.size = s.heap.objs.size + 1 := by rw [<- e1]; exact Heap.size_push ..
  have n2 : a2.objs.size = s.heap.objs.size + 2 := by rw [<- e2, Heap.size_push, n1]
  have n3 : a3.objs.size = s.heap.objs.size + 3 := by rw [<- e3, Heap.size_push, n2]
  have n4 : g.objs.size = s.heap.objs.size + 4 := by rw [hg, Heap.size_push, n3]
  have up1 : ∀ c o, s.heap.get? c = some o -> a1.get? c = some o := fun c o x => e1 ▸ Heap.get?_push_of_some _ x
  have up2 : ∀ c o, a1.get? c = some o -> a2.get? c = some o := fun c o x => e2 ▸ Heap.get?_push_of_some _ x
  have up3 : ∀ c o, a2.get? c = some o -> a3.get? c = some o := fun c o x => e3 ▸ Heap.get?_push_of_some _ x
  have up4 : ∀ c o, a3.get? c = some o -> g.get? c = some o := fun c o x => hg ▸ Heap.get?_push_of_some _ x
  have x1 : a1.get? s.heap.objs.size = some { cls := .type "tuple_iterator", data := .fields #[.ref l1, .int 0 0] } := e1 ▸ Heap.get?_push_size _ rfl
  have x2 : a2.get? (s.heap.objs.size + 1) = some { cls := .type "tuple_iterator", data := .fields #[.ref l2, .int 0 0] } := by rw [<- n1]; exact e2 ▸ Heap.get?_push_size _ rfl
  have x3 : a3.get? (s.heap.objs.size + 2) = some { cls := .type "tuple", data := .seq #[.ref s.heap.objs.size, .ref a1.objs.size] } := by rw [<- n2]; exact e3 ▸ Heap.get?_push_size _ rfl
  have x4 : g.get? (s.heap.objs.size + 3) = some { cls := .type "tuple", data := .seq #[.none, .none] } := by rw [<- n3]; exact hg ▸ Heap.get?_push_size _ rfl
  have x5 : (g.push { cls := .type "zip", data := .fields #[.none, .bool false, .bool false, .ref a2.objs.size, .ref a3.objs.size] }).get? (s.heap.objs.size + 4) = some { cls := .type "zip", data := .fields #[.none, .bool false, .bool false, .ref a2.objs.size, .ref a3.objs.size] } := by rw [<- n4]; exact Heap.get?_push_size _ rfl
  rw [n2, n3] at x5
  rw [n1] at x3
  show _ /\ _
  rw [n4, n2, n3]
  have all : ∀ c o, s.heap.get? c = some o -> (g.push { cls := .type "zip", data := .fields #[.none, .bool false, .bool false, .ref (s.heap.objs.size + 2), .ref (s.heap.objs.size + 3)] }).get? c = some o := fun c o x => Heap.get?_push_of_some _ (up4 _ _ (up3 _ _ (up2 _ _ (up1 _ _ x))))
  refine ⟨⟨_, x5, rfl⟩, k _ ⟨x5, Heap.get?_push_of_some _ (up4 _ _ x3), ⟨_, _, Heap.get?_push_of_some _ x4⟩, ⟨_, Heap.get?_push_of_some _ (up4 _ _ (up3 _ _ (up2 _ _ x1))), rfl, rfl⟩, ⟨_, Heap.get?_push_of_some _ (up4 _ _ (up3 _ _ x2)), rfl, rfl⟩, h1.at fun o e => all _ o e, h2.at fun o e => all _ o e⟩ all⟩
end
end L2
end
section
namespace L2
open PySem PySem.Spec PyProof.Rows
noncomputable def Itz (K : PySem.W.Frag) (l1 l2 : Addr) : It :=
  ⟨fun i H => ∃ xs ys x y, SqT K H l1 xs /\ SqT K H l2 ys /\ xs[i]? = some x /\ ys[i]? = some y,
   fun i H v H' => ∃ p, H p = none /\ v = .ref p /\ ∀ xs ys x y, SqT K H l1 xs -> SqT K H l2 ys -> xs[i]? = some x -> ys[i]? = some y -> H' = upd H p (.tup [x, y]),
   fun i H => ∃ xs, SqT K H l1 xs /\ xs.length <= i /\ ∃ ys, SqT K H l2 ys⟩
noncomputable def znt (z a b i1 i2 l1 l2 : Addr) (i : Nat) (h : Heap) : Prop := IsZip h z a b .none /\ IsPair h a (.ref i1) (.ref i2) /\ (∃ u v, IsPair h b u v) /\ h.IsTupleIter i1 l1 i /\ h.IsTupleIter i2 l2 i
theorem turn_zip {P : Program} {w : World} {K : PySem.W.Frag} {elts : List Expr} {x1} {pos : Pos} {z a b i1 i2 l1 l2 : Addr} (D : ZipApart z a b i1 i2 l1 l2) : Turn P w K (.Tuple elts x1 pos) (Itz K l1 l2) [z, a, b, i1, i2] z (znt z a b i1 i2 l1 l2) where
  mem := by simp
  obj := fun i h st c hc => by
    obtain ⟨h1, h2, ⟨u, v, h3⟩, ⟨o4, h4, _, d4⟩, ⟨o5, h5, _, d5⟩⟩ := st
    simp only [List.mem_cons, List.mem_nil_iff, or_false] at hc
    rcases hc with rfl | rfl | rfl | rfl | rfl
    . exact ⟨_, h1, fun v z => by cases z⟩
    . exact ⟨_, h2, fun v z => by cases z⟩
    . exact ⟨_, h3, fun v z => by cases z⟩
    . exact ⟨_, h4, fun v z => by rw [d4] at z; cases z⟩
    . exact ⟨_, h5, fun v z => by rw [d5] at z; cases z⟩
  keep := fun i h h' st k => by
    obtain ⟨h1, h2, ⟨u, v, h3⟩, h4, h5⟩ := st
    exact ⟨k _ (by simp) _ h1, k _ (by simp) _ h2, ⟨u, v, k _ (by simp) _ h3⟩, h4.at fun o e => k _ (by simp) o e, h5.at fun o e => k _ (by simp) o e⟩
  item := by
    intro X hP hw hK hc i pins s σ H E I hf st hg
    subst hP hw hK
    obtain ⟨xs, ys, x, y, q1, q2, hx, hy⟩ := hg
    obtain ⟨its, rv, p, hz⟩ := I.tuple q1
    obtain ⟨its', rv', p', hz'⟩ := I.tuple q2
    obtain ⟨u, hu, ru⟩ := rv.get hx
    obtain ⟨u', hu', ru'⟩ := rv'.get hy
    obtain ⟨h1, h2, h3, h4, h5⟩ := id st
    refine zipNext D ⟨h1, h2, h3, h4, h5, p, p'⟩ (x := u) (y := u') (by simpa using hu) (by simpa using hu') fun g Z pr all => ⟨_, rfl, ?_⟩
    refine wpAny_letOwnedTupleGo_zip (s := { s with heap := g }) Z.z fun g2 e2 s2 => ?_
    have hn : H s.heap.objs.size = none := I.hok.fresh (Nat.le_refl _)
    have lt : ∀ c ∈ [z, a, b, i1, i2], c < s.heap.objs.size := fun c hc => by
      have := (hf c hc)
      obtain ⟨w1, w2, ⟨_, _, w3⟩, ⟨_, w4, _⟩, ⟨_, w5, _⟩⟩ := st
      simp only [List.mem_cons, List.mem_nil_iff, or_false] at hc
      rcases hc with rfl | rfl | rfl | rfl | rfl
      . exact Heap.lt_size w1
      . exact Heap.lt_size w2
      . exact Heap.lt_size w3
      . exact Heap.lt_size w4
      . exact Heap.lt_size w5
    have kp : ∀ c o, c ∉ [z, a, b, i1, i2] -> s.heap.get? c = some o -> g2.get? c = some o := fun c o hc e => by
      simp only [List.mem_cons, List.mem_nil_iff, or_false, not_or] at hc
      exact s2.extBut _ _ hc.1 (all c o hc.1 hc.2.2.1 hc.2.2.2.1 hc.2.2.2.2 e)
    have trk : ∀ c u, H c = some u -> c ∉ [z, a, b, i1, i2] := fun c u e hc => by rw [(hf c hc).1] at e; cases e
    have pr2 : g2.get? s.heap.objs.size = some { cls := .type "tuple", data := .seq #[u, u'] } := s2.extBut _ _ (Nat.ne_of_gt (lt z (by simp))) pr
    have I2 : Inv X pins σ (upd H s.heap.objs.size (.tup [x, y])) { s with heap := g2 } := by
      refine I.step (g' := s.gens) (d' := s.drawn) (t' := s.toks) (ch := [z, a, b, i1, i2]) (fun c hc => ?_) (fun c o _ _ hc e _ => kp c o hc e) (fun c o _ _ hc e _ => ⟨o.slots, kp c o hc e⟩) (fun c o _ e n => ?_)
        (fun c o hc e => ⟨o, kp c o hc e⟩) (fun c vs e => ?_) (fun c o vs e => ?_) (fun c ps e => ⟨#[], ?_⟩) (fun m hm => ?_) (fun c v e => ?_) I.bare
      . obtain ⟨f0, f1, f2, f3, f4, f5⟩ := hf c hc
        exact ⟨f3, f1, f4, f5⟩
      . rw [upd_ne (Nat.ne_of_lt (Heap.lt_size e))]; exact n
      . rw [upd_ne (ne_of_none e hn)]; exact e
      . rw [upd_ne (ne_of_none e hn)]; exact e
      . rw [upd_ne (ne_of_none e hn), e]; simp
      . obtain ⟨o, es, ep, ho, r⟩ := hm
        exact ⟨o, es, ep, kp _ o (fun hc => (hf _ hc).2.1 rfl) ho, r⟩
      . by_cases hb : c = s.heap.objs.size
        . subst hb
          rw [upd_same] at e; cases e
          exact ⟨by show 2 <= sizeLine; decide, [u, u'], .cons ru (.cons ru' .nil), ⟨_, pr2, rfl, _, rfl⟩⟩
        . rw [upd_ne hb] at e
          refine (I.hok c v e).stay (fun d o hd q => kp d o ?_ q) (fun d q => by rw [upd_ne (ne_of_none q hn)]; exact q) fun d ts q => by rw [upd_ne (ne_of_none q hn)]; exact q
          rcases hd with rfl | hd
          . exact trk _ _ e
          . exact trk _ _ hd
    refine ⟨.ref s.heap.objs.size, _, I2, rfl, ⟨_, hn, rfl, fun xs' ys' x' y' a1 a2 a3 a4 => ?_⟩, ⟨e2, s2.extBut _ _ D.TIz Z.a, ?_, Z.i1.extBut s2.extBut D.i1z, Z.i2.extBut s2.extBut D.i2z⟩, fun c hc => ?_⟩
    . rw [I.tuple_inj a1 q1, hx] at a3
      rw [I.tuple_inj a2 q2, hy] at a4
      cases a3; cases a4; rfl
    . obtain ⟨v1, v2, e3⟩ := Z.b
      exact ⟨v1, v2, s2.extBut _ _ D.TOz e3⟩
    . rw [upd_ne (Nat.ne_of_lt (lt c hc))]; exact (hf c hc).1
  done := by
    intro X hP hw hK hc i pins s σ H E I hf st hg
    subst hP hw hK
    obtain ⟨xs, q1, hx, ys, q2⟩ := hg
    obtain ⟨its, rv, p, hz⟩ := I.tuple q1
    obtain ⟨its', rv', p', hz'⟩ := I.tuple q2
    obtain ⟨h1, h2, h3, h4, h5⟩ := id st
    have hl := rv.length
    refine zipEnd (I.ok.hd hc) D ⟨h1, h2, h3, h4, h5, p, p'⟩ (by simp; omega) fun g all => ⟨rfl, ?_⟩
    have kp : ∀ c o, c ∉ [z, a, b, i1, i2] -> s.heap.get? c = some o -> g.get? c = some o := fun c o hc e => by
      simp only [List.mem_cons, List.mem_nil_iff, or_false, not_or] at hc
      exact all c o hc.1 hc.2.2.1 hc.2.2.2.1 hc.2.2.2.2 e
    have trk : ∀ c u, H c = some u -> c ∉ [z, a, b, i1, i2] := fun c u e hc => by rw [(hf c hc).1] at e; cases e
    refine I.step (g' := s.gens) (d' := s.drawn) (t' := s.toks) (ch := [z, a, b, i1, i2]) (fun c hc => ?_) (fun c o _ _ hc e _ => kp c o hc e) (fun c o _ _ hc e _ => ⟨o.slots, kp c o hc e⟩) (fun c o _ e n => n)
        (fun c o hc e => ⟨o, kp c o hc e⟩) (fun c vs e => e) (fun c o vs e => e) (fun c ps e => ⟨#[], by rw [e]; simp⟩) (fun m hm => ?_) (fun c v e => ?_) I.bare
    . obtain ⟨f0, f1, f2, f3, f4, f5⟩ := hf c hc
      exact ⟨f3, f1, f4, f5⟩
    . obtain ⟨o, es, ep, ho, r⟩ := hm
      exact ⟨o, es, ep, kp _ o (fun hc => (hf _ hc).2.1 rfl) ho, r⟩
    . refine (I.hok c v e).stay (fun d o hd q => kp d o ?_ q) (fun d q => q) fun d ts q => q
      rcases hd with rfl | hd
      . exact trk _ _ e
      . exact trk _ _ hd
  self := fun _ _ _ _ _ st h => wpAny_pyIter_zip st.1 h
section
variable {X : Cx}
noncomputable def iZip (K : PySem.W.Frag) (ta : TA) : TI := fun σ H R => ta σ H fun vs H1 => ∃ l1 l2, vs = [.ref l1, .ref l2] /\ (∃ xs, SqT K H1 l1 xs) /\ (∃ ys, SqT K H1 l2 ys) /\ R (Itz K l1 l2) H1
theorem pi_zip {a b : Expr} {ta : TA} {p pos pt : Pos} {elts : List Expr} {x1} (hg : Gl X "zip") (hm : X.mg "zip" = none) (ha : PA X [a, b] ta) (hs : starEach [a, b] X.env = [(false, eval a X.env), (false, eval b X.env)] := by rfl) (hs2 : starEach [b] X.env = [(false, eval b X.env)] := by rfl) :
    PI X (.Tuple elts x1 pt) (.Call (.Name "zip" p) [a, b] [] pos) (iZip X.K ta) := by
  intro pins s σ H R I h
  refine Call_ (ld_blt I hg hm boot_zip (PyProof.Rows.callWith_type1 (thn (ha pos pins s σ H _ I h) fun us s1 ⟨vs, H1, I1, r1, q1⟩ => ?_) (by rw [hs, hs2]) (by rw [hs2]; rfl)))
  obtain ⟨l1, l2, e, ⟨xs, q1⟩, ⟨ys, q2⟩, q⟩ := q1
  subst e
  cases r1 with
  | cons r rr =>
    cases rr with
    | cons r' rr =>
      cases rr
      cases (show _ = Value.ref l1 from r)
      cases (show _ = Value.ref l2 from r')
      obtain ⟨its, rv, p1, _⟩ := I1.tuple q1
      obtain ⟨its', rv', p2, _⟩ := I1.tuple q2
      have a1 : l1 < s1.heap.objs.size := by obtain ⟨_, e, _⟩ := p1; exact Heap.lt_size e
      have a2 : l2 < s1.heap.objs.size := by obtain ⟨_, e, _⟩ := p2; exact Heap.lt_size e
      refine callZip (show s1.heap.IsTuple l1 its.toArray from p1) (show s1.heap.IsTuple l2 its'.toArray from p2) fun g Z all => ?_
      refine wpAny_pyIter_zip (s := { s1 with heap := g }) Z.z ?_
      refine ⟨_, _, _, _, H1, rfl, I1.kept (t' := s1.toks) all, turn_zip (PyProof.Rows.zipApart_new a1 a2), ⟨Z.z, Z.a, Z.b, Z.i1, Z.i2⟩, fun b hb => ?_, q⟩
      have ge : s1.heap.objs.size <= b := by
        simp only [List.mem_cons, List.mem_nil_iff, or_false] at hb
        rcases hb with rfl | rfl | rfl | rfl | rfl
        . exact Nat.le_add_right _ 4
        . exact Nat.le_add_right _ 2
        . exact Nat.le_add_right _ 3
        . exact Nat.le_refl _
        . exact Nat.le_add_right _ 1
      exact I1.fpOk ge (I1.hok.fresh ge)
end
end L2
end
section
namespace L2
open PySem PySem.Spec PyProof.Rows
theorem weight_in : ∀ (ns : List Int) (n : Int), n ∈ ns -> PySem.W.WData.weight (.int n) <= PySem.W.WData.weightAll (ns.map PySem.W.WData.int)
  | m :: ns, n, h => by
    rw [List.map_cons, PySem.W.WData.weightAll]
    rcases List.mem_cons.mp h with rfl | h
    . omega
    . have := weight_in ns n h
      omega
theorem walkB {l : PySem.W.OpenLaw} {n k : Nat} {q : Program} {loose : List Str} {XP : (Str -> Option Value) -> Heap -> Prop} {YP : World -> Heap -> Prop} {d : DefRec} {K : Params -> PySem.W.Frag} {sp : PySem.W.Frag -> Sp} {x : Str}
    (hn : l.most = some n) (hn2 : n <= sizeLine) (hdf : d.params.defaults = []) (hr : Room k callerA) (hY : ∀ (w : World) (h : Heap), YP w h -> (K w.params).In h)
    (F : ∀ (w : World) (mg : Str -> Option Value) (fa : Addr) (h : Heap), (K w.params).In h -> h.Ns mainGlobals mg -> mg d.name = some (.ref fa) ->
      ∃ fd : FuncData, (∀ (s : Shared) (u : Value), BindsTo s fd ⟨[u], []⟩ [(x, u)]) /\ ∀ base : Heap, (K w.params).In base -> base.Ns mainGlobals mg -> FnOk l.prog w (K w.params) mg base CX0 k fa fd [x] (sp (K w.params)))
    (hsp : ∀ (K : PySem.W.Frag) (H : Hp) (a : Addr) (ns : List Int), ns.length <= n -> (∀ v ∈ ns, Builtin.Int.intBits v <= 2 ^ 20) -> SqL K H a (ns.map V.int) -> sp K [.ref a] H (fun v _ => v = .bl true) fun _ _ _ => False) :
    PySem.W.WalkO q loose XP YP l.row.toRowW d [] (fun f vs => PySem.call f vs) := by
  intro w s₀ s₁ mg mb G Y fa o pm cd doc dV kV ho hd hcd hD hmg hg args vals as hpre hlay hrd hwl hlo
  obtain rfl : dV = .none := PySem.W.Dflts.none hD hdf
  obtain rfl : kV = .none := PySem.W.Dflts.noKw hD
  obtain ⟨a, vs, ns, rfl, rfl, hobj, hints, hlen⟩ := Att.script_of hn hpre hwl
  have bits : ∀ v ∈ ns, Builtin.Int.intBits v <= 2 ^ 20 := fun v hv => by
    have h1 : PySem.W.WData.layable (.list (ns.map PySem.W.WData.int)) = true := by
      have h2 : [PySem.W.WData.list (ns.map PySem.W.WData.int)].all PySem.W.WData.layable = true := hlay
      simpa only [List.all_cons, List.all_nil, Bool.and_true] using h2
    have h3 := (PySem.W.layableW_iff.mp h1).2.2
    have h4 := weight_in ns v hv
    rw [PySem.W.WData.weight] at h3
    have h5 : PySem.W.WData.weight (.int v) = Builtin.Int.intBits v := by first | rfl | simp only [PySem.W.WData.weight, Builtin.Int.intBits]
    omega
  have KX := hY w _ Y
  obtain ⟨fd, hb, hF⟩ := F w mg fa _ KX G.T.g hmg
  have call := law_call KX G.T.g G.T.b G.T.builtins G.T.nolimit hg hobj hints (Nat.le_trans hlen hn2) hr hF hb (fun H hO hS => hsp (K w.params) H a ns hlen bits hS) fun H e s' z => z
  refine PySem.W.enter_call (codeAny_mono call fun r s' hq => ?_)
  obtain ⟨rfl, h2, h3, h4⟩ := hq
  exact ⟨.inl ⟨.bool true, .bool true, [], rfl, fun _ => rfl, .bool true, Att.post_true l _, fun _ => ⟨List.Pairwise.nil, fun _ hm => (nomatch hm)⟩⟩, h2, h3, h4⟩
end L2
end
section
namespace L2
open PySem PySem.Spec PyProof.Rows
open PySem.W (Dat kqdP kqdPs kqdOk)
noncomputable def Tm (H H' : Hp) : Prop := ∀ (K : PySem.W.Frag) (a : Addr) (xs : List V), SqT K H a xs -> SqT K H' a xs
theorem Tm.refl (H : Hp) : Tm H H := fun _ _ _ h => h
theorem Tm.trans {H H1 H2 : Hp} (a : Tm H H1) (b : Tm H1 H2) : Tm H H2 := fun K c o h => b K c o (a K c o h)
theorem Same.tm {H H' : Hp} (e : Same H H') : Tm H H' := fun _ _ _ h => e.tup h
theorem Tm.lst {H : Hp} {D : Addr} {ys : List V} (h : H D = some (.lst ys)) (o : HO) : Tm H (upd H D o) := fun K a xs q => by
  rcases q with (q | ⟨ob, q⟩) | q
  . exact .inl (.inl (by rw [upd_ne (ne_of q h (fun z => by cases z))]; exact q))
  . exact .inl (.inr ⟨ob, by rw [upd_ne (ne_of q h (fun z => by cases z))]; exact q⟩)
  . exact .inr q
noncomputable def SB (p : Addr) (H H' : Hp) : Prop := ∀ b o, b ≠ p -> H b = some o -> H' b = some o
theorem SB.refl (p : Addr) (H : Hp) : SB p H H := fun _ _ _ h => h
theorem SB.trans {p : Addr} {H H1 H2 : Hp} (a : SB p H H1) (b : SB p H1 H2) : SB p H H2 := fun c o n h => b c o n (a c o n h)
theorem Same.sb {p : Addr} {H H' : Hp} (e : Same H H') : SB p H H' := fun b o _ h => e b o h
theorem SB.upd {p : Addr} {H : Hp} {o : HO} : SB p H (upd H p o) := fun b u n h => by rw [upd_ne n]; exact h
theorem SB.tm {p : Addr} {H H' : Hp} {ys : List V} (e : SB p H H') (h : H p = some (.lst ys)) : Tm H H' := fun K a xs q => by
  rcases q with (q | ⟨ob, q⟩) | q
  . exact .inl (.inl (e _ _ (ne_of q h (fun z => by cases z)) q))
  . exact .inl (.inr ⟨ob, e _ _ (ne_of q h (fun z => by cases z)) q⟩)
  . exact .inr q
theorem Same.snoc {H H5 : Hp} {D : Addr} {o : HO} (h : Same H H5) (hn : H D = Option.none) : Same H (upd H5 D o) := fun b u e => by rw [upd_ne (ne_of_none e hn)]; exact h b u e
mutual
inductive Fz (K : PySem.W.Frag) (H : Hp) : V -> Dat -> Prop
  | none : Fz K H .non .none
  | bool (b : Bool) : Fz K H (.bl b) (.bool b)
  | int (i : Int) : Fz K H (.int i) (.int i)
  | str (x : Str) : Fz K H (.str x) (.str x)
  | tup {a : Addr} {xs : List V} {ds : List Dat} : SqT K H a xs -> Fzs K H xs ds -> Fz K H (.ref a) (.tuple ds)
inductive Fzs (K : PySem.W.Frag) (H : Hp) : List V -> List Dat -> Prop
  | nil : Fzs K H [] []
  | cons {x : V} {d : Dat} {xs : List V} {ds : List Dat} : Fz K H x d -> Fzs K H xs ds -> Fzs K H (x :: xs) (d :: ds)
end
section
variable {K : PySem.W.Frag} {H H' : Hp}
mutual
theorem Fz.tm (e : Tm H H') : ∀ {v : V} {d : Dat}, Fz K H v d -> Fz K H' v d
  | _, _, .none => .none
  | _, _, .bool b => .bool b
  | _, _, .int i => .int i
  | _, _, .str x => .str x
  | _, _, .tup h r => .tup (e _ _ _ h) (Fzs.tm e r)
theorem Fzs.tm (e : Tm H H') : ∀ {v : List V} {d : List Dat}, Fzs K H v d -> Fzs K H' v d
  | _, _, .nil => .nil
  | _, _, .cons h r => .cons (Fz.tm e h) (Fzs.tm e r)
end
theorem Fzs.length : ∀ {v : List V} {d : List Dat}, Fzs K H v d -> v.length = d.length
  | _, _, .nil => rfl
  | _, _, .cons _ r => by rw [List.length_cons, List.length_cons, Fzs.length r]
theorem Fzs.snoc : ∀ {v : List V} {d : List Dat} {x : V} {e : Dat}, Fzs K H v d -> Fz K H x e -> Fzs K H (v ++ [x]) (d ++ [e])
  | _, _, _, _, .nil, h => .cons h .nil
  | _, _, _, _, .cons a r, h => .cons a (Fzs.snoc r h)
theorem Fzs.ints_inv : ∀ {vs : List V} {ns : List Int}, Fzs K H vs (ns.map Dat.int) -> vs = ns.map V.int
  | _, [], h => by cases h; rfl
  | _, n :: ns, h => by
    cases h with
    | cons a r =>
      cases a
      rw [Fzs.ints_inv r]; rfl
end
section
variable {K : PySem.W.Frag} {te : TE} {σ : St} {H : Hp} {Q : VK}
theorem comp_by {J : It} {g : TG} {no n : Nat} (ds : List Dat) (hn : ds.length = n) (hz : n <= sizeLine) {Pσ : Nat -> St -> Prop} (h0 : Pσ 0 (List.replicate no none ++ σ))
    (stop : ∀ H', Same H H' -> J.stop n H') (go : ∀ i H', i < n -> Same H H' -> J.go i H')
    (turn : ∀ i σ' H' d, ds[i]? = some d -> Same H H' -> Pσ i σ' -> ∀ x H2, J.yld i H' x H2 -> g x σ' H2 fun σ3 H3 => te σ3 H3 fun v H5 => Pσ (i + 1) σ3 /\ Same H' H5 /\ Fz K H5 v d)
    (mono : ∀ x σ' H2 Q1 Q2, (∀ σ3 H3, Q1 σ3 H3 -> Q2 σ3 H3) -> g x σ' H2 Q1 -> g x σ' H2 Q2) (monoE : ∀ σ' H2 Q1 Q2, (∀ v H3, Q1 v H3 -> Q2 v H3) -> te σ' H2 Q1 -> te σ' H2 Q2)
    (fin : ∀ D H' ys, Same H H' -> H' D = some (.lst ys) -> H D = Option.none -> Fzs K H' ys ds -> Q (.ref D) H') :
    CompW no (J) g tAll te σ H Q := by
  intro D hD
  refine ⟨fun i m σ' H' => m = n - i /\ i <= n /\ Pσ i σ' /\ Same H H' /\ ∃ ys, H' D = some (.lst ys) /\ Fzs K H' ys (ds.take i), ⟨n, by omega, Nat.zero_le _, h0, Same.new hD _, [], upd_same, .nil⟩, ?_⟩
  rintro i m σ' H' ⟨rfl, hi, hp, hs, ys, hy, hf⟩
  by_cases hlt : i < n
  . refine .inr ⟨go i H' hlt hs, fun x H2 hy2 => ?_⟩
    obtain ⟨d, hd⟩ : ∃ d, ds[i]? = some d := ⟨ds[i], by simp⟩
    refine mono _ _ _ _ _ (fun σ3 H3 h3 => ?_) (turn i σ' H' d hd hs hp x H2 hy2)
    unfold tAll
    dsimp only
    rw [if_pos rfl]
    refine monoE _ _ _ _ (fun v H5 h5 => ?_) h3
    obtain ⟨p5, s5, f5⟩ := h5
    have l : ys.length = i := by rw [hf.length, List.length_take]; omega
    refine ⟨ys, s5 _ _ hy, by omega, n - (i + 1), by omega, rfl, hlt, p5, (hs.trans s5).snoc hD, ys ++ [v], upd_same, ?_⟩
    have tm := Tm.lst (s5 _ _ hy) (.lst (ys ++ [v]))
    rw [List.take_add_one, hd]
    exact ((hf.tm s5.tm).tm tm).snoc (f5.tm tm)
  . have e : i = n := by omega
    subst e
    refine .inl ⟨stop H' hs, fin D H' ys hs hy hD ?_⟩
    rw [<- hn, List.take_length] at hf
    exact hf
theorem gName_mono {i : Nat} : ∀ x σ' H2 Q1 Q2, (∀ σ3 H3, Q1 σ3 H3 -> Q2 σ3 H3) -> gName i x σ' H2 Q1 -> gName i x σ' H2 Q2 := fun _ _ _ _ _ h q => h _ _ q
theorem comp_tup {a : Addr} {xs : List V} (ds : List Dat) (hS : SqT K H a xs) (hn : ds.length = xs.length) (hz : xs.length <= sizeLine)
    (turn : ∀ (i : Nat) x H' d, xs[i]? = some x -> ds[i]? = some d -> Same H H' -> te (some x :: σ) H' fun v H5 => Same H' H5 /\ Fz K H5 v d)
    (monoE : ∀ σ' H2 Q1 Q2, (∀ v H3, Q1 v H3 -> Q2 v H3) -> te σ' H2 Q1 -> te σ' H2 Q2)
    (fin : ∀ D H' ys, Same H H' -> H' D = some (.lst ys) -> H D = Option.none -> Fzs K H' ys ds -> Q (.ref D) H') :
    CompW 1 (Itt K a) (gName 0) tAll te σ H Q := by
  refine comp_by (J := Itt K a) (K := K) ds hn hz (Pσ := fun _ σ' => ∃ o, σ' = o :: σ) ⟨none, rfl⟩ (fun H' s => ⟨xs, s.tup hS, Nat.le_refl _⟩) (fun i H' hi s => ⟨xs, xs[i], s.tup hS, by simp [hi]⟩) ?_ gName_mono monoE fin
  rintro i σ' H' d hd s ⟨o, rfl⟩ x H2 ⟨rfl, hy⟩
  have hx := hy xs (s.tup hS)
  refine monoE _ _ _ _ (fun v H3 h => ?_) (turn i x H2 d hx hd s)
  exact ⟨⟨_, rfl⟩, h⟩
noncomputable def gPair (K : PySem.W.Frag) : TG := gTup K 2 (gCons (gName 0) (gCons (gName 1) gNil))
theorem comp_zip {l1 l2 : Addr} {xs ys : List V} (ds : List Dat) (h1 : SqT K H l1 xs) (h2 : SqT K H l2 ys) (hl : ys.length = xs.length) (hn : ds.length = xs.length) (hz : xs.length <= sizeLine)
    (turn : ∀ (i : Nat) x y H' d, xs[i]? = some x -> ys[i]? = some y -> ds[i]? = some d -> Same H H' -> te (some x :: some y :: σ) H' fun v H5 => Same H' H5 /\ Fz K H5 v d)
    (monoE : ∀ σ' H2 Q1 Q2, (∀ v H3, Q1 v H3 -> Q2 v H3) -> te σ' H2 Q1 -> te σ' H2 Q2)
    (fin : ∀ D H' ys, Same H H' -> H' D = some (.lst ys) -> H D = Option.none -> Fzs K H' ys ds -> Q (.ref D) H') :
    CompW 2 (Itz K l1 l2) (gPair K) tAll te σ H Q := by
  refine comp_by (J := Itz K l1 l2) (K := K) ds hn hz (Pσ := fun _ σ' => ∃ o p, σ' = o :: p :: σ) ⟨none, none, rfl⟩ (fun H' s => ⟨xs, s.tup h1, Nat.le_refl _, ys, s.tup h2⟩) (fun i H' hi s => ⟨xs, ys, xs[i], ys[i], s.tup h1, s.tup h2, by simp [hi], by simp [hl, hi]⟩) ?_ ?_ monoE fin
  . rintro i σ' H' d hd s ⟨o, o', rfl⟩ x H2 ⟨p, hp, rfl, hy⟩
    have hi : i < xs.length := by
      have := (List.getElem?_eq_some_iff.mp hd).1
      omega
    have ex : xs[i]? = some xs[i] := by simp [hi]
    have ey : ys[i]? = some (ys[i]'(by omega)) := by simp [hl, hi]
    have e2 := hy xs ys _ _ (s.tup h1) (s.tup h2) ex ey
    subst e2
    have s2 : Same H' (upd H' p (.tup [xs[i], ys[i]'(by omega)])) := Same.new hp _
    refine ⟨p, _, rfl, SqT.of upd_same, rfl, _, _, rfl, _, _, rfl, rfl, ?_⟩
    refine monoE _ _ _ _ (fun v H3 h => ?_) (turn i _ _ _ d ex ey hd (s.trans s2))
    exact ⟨⟨_, _, rfl⟩, s2.trans h.1, h.2⟩
  . rintro x σ' H2 Q1 Q2 hq ⟨a, vs, e1, e2, e3, v1, r1, e4, v2, r2, e5, e6, q⟩
    exact ⟨a, vs, e1, e2, e3, v1, r1, e4, v2, r2, e5, e6, hq _ _ q⟩
theorem pg_pair {X : Cx} {own : List Str} {scope : Scope} {C : Addr} {fp : List Addr} {s : Shared} {H : Hp} {x y : Str} {px py pos : Pos} {k : Nat} (hc : X.calm = true) (nd : (cxComp X own scope C fp s H).N.Nodup) (h0 : (cxComp X own scope C fp s H).N[0]? = some x) (h1 : (cxComp X own scope C fp s H).N[1]? = some y)
    (l0 : (cxComp X own scope C fp s H).env.scope.names.lookup x = some .local) (l1 : (cxComp X own scope C fp s H).env.scope.names.lookup y = some .local) : PG (cxComp X own scope C fp s H) (.Tuple [.Name x px, .Name y py] k pos) (gPair X.K) :=
  pg_tup (X := cxComp X own scope C fp s H) (n := 2) hc (pgs_cons (pg_name (i := 0) nd h0 (Or.inl l0) (Or.inr l0)) (pgs_cons (pg_name (i := 1) nd h1 (Or.inl l1) (Or.inr l1)) pgs_nil))
end
end L2
end
section
namespace L2
open PySem PySem.Spec PyProof.Rows
section
variable {X : Cx} {es : List Expr} {t : TA} {te : TE}
theorem pa_i {i : Int} {j : Nat} {p : Pos} (hr : PA X es t) : PA X (.Constant (.int i) j p :: es) (tCons (tC (.int i)) t) := pa_cons pe_int hr rfl
theorem pa_n {x : Str} {p : Pos} (ha : PE X (.Name x p) te) (hr : PA X es t) : PA X (.Name x p :: es) (tCons te t) := pa_cons ha hr rfl
theorem pa_b {a b : Expr} {op : Operator} {p : Pos} (ha : PE X (.BinOp a op b p) te) (hr : PA X es t) : PA X (.BinOp a op b p :: es) (tCons te t) := pa_cons ha hr rfl
theorem pa_s {a b : Expr} {p : Pos} (ha : PE X (.Subscript a b p) te) (hr : PA X es t) : PA X (.Subscript a b p :: es) (tCons te t) := pa_cons ha hr rfl
theorem pa_c {f : Expr} {a : List Expr} {k : List Keyword} {p : Pos} (ha : PE X (.Call f a k p) te) (hr : PA X es t) : PA X (.Call f a k p :: es) (tCons te t) := pa_cons ha hr rfl
theorem pa_t {a : List Expr} {p : Pos} {k : Nat} (ha : PE X (.Tuple a k p) te) (hr : PA X es t) : PA X (.Tuple a k p :: es) (tCons te t) := pa_cons ha hr rfl
theorem pix_call {f : Expr} {a : List Expr} {k : List Keyword} {p : Pos} : PlainIx (.Call f a k p) := fun _ _ => rfl
theorem sw_sub {a b : Expr} {p : Pos} {t : Option Expr} {l : Nat} {env : Env} : swapsWith (.Subscript a b p) t l env = pure false := rfl
end
end L2
end
section
namespace L2
open PySem PySem.Spec PyProof.Rows
open PySem.W (Dat)
noncomputable def Src (J : It) (H : Hp) (xs : List V) : Prop := ∀ H', Same H H' -> J.stop xs.length H' /\ ∀ i x, xs[i]? = some x -> J.go i H' /\ ∀ y H2, J.yld i H' y H2 -> H' = H2 /\ x = y
section
variable {K : PySem.W.Frag} {H : Hp} {σ : St} {te : TE} {tt : TT} {Q : VK} {J : It} {xs : List V}
theorem src_tup {a : Addr} (h : SqT K H a xs) : Src (Itt K a) H xs := fun H' s => ⟨⟨xs, s.tup h, Nat.le_refl _⟩, fun i x hx => ⟨⟨xs, x, s.tup h, hx⟩, fun y H2 ⟨e, q⟩ => ⟨e.symm, by
  have := q xs (s.tup h)
  rw [hx] at this; cases this; rfl⟩⟩⟩
theorem comp_src (S : Src J H xs) (kp : V -> Bool) (dv : V -> Dat) (hz : xs.length <= sizeLine)
    (test : ∀ x ∈ xs, ∀ H', Same H H' -> ∀ R : Bool -> Hp -> Prop, (∀ H4, Same H' H4 -> R (kp x) H4) -> tt (some x :: σ) H' R)
    (turn : ∀ x ∈ xs, kp x = true -> ∀ H', Same H H' -> ∀ R : VK, (∀ v H5, Same H' H5 -> Fz K H5 v (dv x) -> R v H5) -> te (some x :: σ) H' R)
    (fin : ∀ D H' ys, Same H H' -> H' D = some (.lst ys) -> H D = none -> Fzs K H' ys ((xs.filter kp).map dv) -> Q (.ref D) H') :
    CompW 1 J (gName 0) tt te σ H Q := by
  intro D hD
  refine ⟨fun i m σ' H' => m = xs.length - i /\ i <= xs.length /\ (∃ o, σ' = o :: σ) /\ Same H H' /\ ∃ ys, H' D = some (.lst ys) /\ Fzs K H' ys (((xs.take i).filter kp).map dv), ⟨xs.length, by omega, Nat.zero_le _, ⟨_, rfl⟩, Same.new hD _, [], upd_same, .nil⟩, ?_⟩
  rintro i m σ' H' ⟨rfl, hi, ⟨o, rfl⟩, hs, ys, hy, hf⟩
  obtain ⟨stop, each⟩ := S H' hs
  by_cases hlt : i < xs.length
  . obtain ⟨go, yl⟩ := each i xs[i] (by simp [hlt])
    have hm : xs[i] ∈ xs := List.getElem_mem hlt
    refine .inr ⟨go, fun y H2 q => ?_⟩
    obtain ⟨rfl, rfl⟩ := yl y H2 q
    show tt (some xs[i] :: σ) H' _
    refine test _ hm H' hs _ fun H4 s4 => ?_
    have tk : xs.take (i + 1) = xs.take i ++ [xs[i]] := by rw [List.take_add_one]; simp [hlt]
    by_cases hk : kp xs[i] = true
    . rw [if_pos hk]
      refine turn _ hm hk H4 (hs.trans s4) _ fun v H5 s5 f5 => ?_
      have l : ys.length <= i := by
        rw [hf.length, List.length_map]
        exact Nat.le_trans (List.length_filter_le _ _) (by rw [List.length_take]; omega)
      have hy5 := s5 _ _ (s4 _ _ hy)
      refine ⟨ys, hy5, by omega, xs.length - (i + 1), by omega, rfl, hlt, ⟨_, rfl⟩, (hs.trans (s4.trans s5)).snoc hD, ys ++ [v], upd_same, ?_⟩
      have tm := Tm.lst hy5 (.lst (ys ++ [v]))
      rw [tk, List.filter_append, List.map_append]
      have : [xs[i]].filter kp = [xs[i]] := by simp [hk]
      rw [this]
      exact ((hf.tm (s4.trans s5).tm).tm tm).snoc (f5.tm tm)
    . rw [if_neg hk]
      refine ⟨xs.length - (i + 1), by omega, rfl, hlt, ⟨_, rfl⟩, hs.trans s4, ys, s4 _ _ hy, ?_⟩
      rw [tk, List.filter_append]
      have : [xs[i]].filter kp = [] := by simp [hk]
      rw [this, List.append_nil]
      exact hf.tm s4.tm
  . have e : i = xs.length := by omega
    subst e
    refine .inl ⟨stop, fin D H' ys hs hy hD ?_⟩
    rw [List.take_length] at hf
    exact hf
theorem comp_all (S : Src J H xs) (dv : V -> Dat) (hz : xs.length <= sizeLine)
    (turn : ∀ x ∈ xs, ∀ H', Same H H' -> ∀ R : VK, (∀ v H5, Same H' H5 -> Fz K H5 v (dv x) -> R v H5) -> te (some x :: σ) H' R)
    (fin : ∀ D H' ys, Same H H' -> H' D = some (.lst ys) -> H D = none -> Fzs K H' ys (xs.map dv) -> Q (.ref D) H') :
    CompW 1 J (gName 0) tAll te σ H Q :=
  comp_src S (fun _ => true) dv hz (fun x _ H' _ R q => q H' (Same.refl _)) (fun x hx _ => turn x hx) fun D H' ys s h n f => fin D H' ys s h n (by
    have e : xs.filter (fun _ => true) = xs := List.filter_eq_self.mpr fun _ _ => rfl
    rw [e] at f; exact f)
theorem comp_ints {ns : List Int} (S : Src J H (ns.map V.int)) (fn : Int -> Int) (hz : ns.length <= sizeLine)
    (turn : ∀ n ∈ ns, ∀ H', Same H H' -> ∀ R : VK, (∀ H5, Same H' H5 -> R (.int (fn n)) H5) -> te (some (.int n) :: σ) H' R)
    (fin : ∀ D H', Same H H' -> H' D = some (.lst ((ns.map fn).map V.int)) -> H D = none -> Q (.ref D) H') :
    CompW 1 J (gName 0) tAll te σ H Q := by
  refine comp_all (K := []) S (fun v => match v with | .int n => .int (fn n) | _ => .none) (by rw [List.length_map]; exact hz) (fun x hx H' s R q => ?_) fun D H' ys s h n f => ?_
  . obtain ⟨n, hn, rfl⟩ := List.mem_map.mp hx
    exact turn n hn H' s R fun H5 s5 => q _ _ s5 (.int _)
  . rw [List.map_map] at f
    have e : ys = (ns.map fn).map V.int := Fzs.ints_inv (by rw [List.map_map]; exact f)
    subst e
    exact fin D H' s h n
theorem comp_ifs {ns : List Int} (S : Src J H (ns.map V.int)) (kp : Int -> Bool) (hz : ns.length <= sizeLine)
    (test : ∀ n ∈ ns, ∀ H', Same H H' -> ∀ R : Bool -> Hp -> Prop, (∀ H4, Same H' H4 -> R (kp n) H4) -> tt (some (.int n) :: σ) H' R)
    (turn : ∀ n ∈ ns, ∀ H', Same H H' -> ∀ R : VK, (∀ H5, Same H' H5 -> R (.int n) H5) -> te (some (.int n) :: σ) H' R)
    (fin : ∀ D H', Same H H' -> H' D = some (.lst ((ns.filter kp).map V.int)) -> H D = none -> Q (.ref D) H') :
    CompW 1 J (gName 0) tt te σ H Q := by
  refine comp_src (K := []) S (fun v => match v with | .int n => kp n | _ => false) (fun v => match v with | .int n => .int n | _ => .none) (by rw [List.length_map]; exact hz) (fun x hx H' s R q => ?_) (fun x hx _ H' s R q => ?_) fun D H' ys s h n f => ?_
  . obtain ⟨n, hn, rfl⟩ := List.mem_map.mp hx
    exact test n hn H' s R q
  . obtain ⟨n, hn, rfl⟩ := List.mem_map.mp hx
    exact turn n hn H' s R fun H5 s5 => q _ _ s5 (.int _)
  . have e : ys = (ns.filter kp).map V.int := Fzs.ints_inv (by
      rw [List.filter_map, List.map_map] at f
      exact f)
    subst e
    exact fin D H' s h n
end
theorem tSeq_cut {t r : TS} {D : Ends} {σ : St} {H : Hp} (Mid : St -> Hp -> Prop) (h1 : ∀ N : St -> Hp -> Prop, (∀ σ H, Mid σ H -> N σ H) -> t { D with nx := N } σ H) (h2 : ∀ σ H, Mid σ H -> r D σ H) : tSeq t r D σ H := h1 _ h2
theorem kqd_ints (ns : List Int) (n : Nat) : (ns.map Dat.int).all (PySem.W.kqdOk n) = true := by
  rw [List.all_map, List.all_eq_true]
  intro x _
  cases n <;> rfl
theorem kqd_tup {ns : List Int} : PySem.W.kqdOk 9 (.tuple (ns.map .int)) = true := kqd_ints ns 8
theorem map_int_inj {ns ms : List Int} (h : ns.map Dat.int = ms.map Dat.int) : ns = ms := by
  induction ns generalizing ms with
  | nil => cases ms with
    | nil => rfl
    | cons b r => cases h
  | cons a r ih => cases ms with
    | nil => cases h
    | cons b r' =>
      rw [List.map_cons, List.map_cons] at h
      injection h with h1 h2
      injection h1 with h1
      rw [h1, ih h2]
theorem deq_tup {ns ms : List Int} : deq (.tuple (ns.map .int)) (.tuple (ms.map .int)) = decide (ns = ms) := by
  by_cases h : ns = ms
  . subst h; rw [deq_self, decide_eq_true rfl]
  . rw [decide_eq_false h]
    exact deq_ne fun z => h (map_int_inj (by injection z))
theorem pe_tyn {X : Cx} {x : Str} {T : String} {pos : Pos} (hg : Gl X x) (hm : X.mg x = none) (hv : bootBuiltins x = some (.type T)) (hn : x ≠ "__name__" := by decide) (hd : (x == ("__debug__" : Str)) = false := by decide) : PE X (.Name x pos) (tC (.ty T)) :=
  pe_bltn (v := .ty T) hg hm hv rfl hn hd
end L2
end
section
namespace L2
open PySem PySem.Spec PyProof.Rows
noncomputable def DefAt (K : PySem.W.Frag) (x : Str) (st : Stmt) : Prop := ∃ (f : Addr) (oc : Value) (od : Option Addr) (kV dc pm : Value) (an : Option Addr) (cd ct : Value) (sl : Array (Option Value)),
  PySem.W.nsIn K mainGlobals x = some (some (.ref f)) /\ K.lookup f = some ⟨oc, od, .func (PySem.W.fnOf x x (defArgs st) (defBody st) (defScope st) .none kV dc pm an cd ct), sl⟩ /\ PySem.W.codeIn K cd x = true /\ PySem.W.keepIn K (.ref f) = true
theorem DefAt.mk {K : PySem.W.Frag} {x : Str} {st : Stmt} {f : Addr} {oc : Value} {od : Option Addr} {kV dc pm : Value} {an : Option Addr} {cd ct : Value} {sl : Array (Option Value)} (a : PySem.W.nsIn K mainGlobals x = some (some (.ref f)))
    (l : K.lookup f = some ⟨oc, od, .func (PySem.W.fnOf x x (defArgs st) (defBody st) (defScope st) .none kV dc pm an cd ct), sl⟩) (c : PySem.W.codeIn K cd x = true) (k : PySem.W.keepIn K (.ref f) = true) : DefAt K x st := ⟨f, oc, od, kV, dc, pm, an, cd, ct, sl, a, l, c, k⟩
theorem DefAt.get {K : PySem.W.Frag} {x : Str} {st : Stmt} {h : Heap} {mg : Str -> Option Value} (d : DefAt K x st) (X : K.In h) (G : h.Ns mainGlobals mg) : ∃ (f : Addr) (fd : FuncData), Fun K x x st f fd /\ mg x = some (.ref f) /\ PySem.W.keepIn K (.ref f) = true := by
  obtain ⟨f, oc, od, kV, dc, pm, an, cd, ct, sl, a, l, c, k⟩ := d
  exact ⟨f, _, fun_mk l c k, PySem.W.mg_of X G a, k⟩
theorem DefAt.law {K : PySem.W.Frag} {x y : Str} {st : Stmt} {h : Heap} {mg : Str -> Option Value} {fa : Addr} (d : DefAt K x st) (X : K.In h) (G : h.Ns mainGlobals mg) (hfa : mg x = some (.ref fa))
    (hb : ∀ (kV doc pm : Value) (an : Option Addr) (cdv ct : Value) (u : Value), bindArgs (PySem.W.fnOf x x (defArgs st) (defBody st) (defScope st) .none kV doc pm an cdv ct) ⟨[u], []⟩ = pure [(y, u)]) : ∃ (fd : FuncData), Fun K x x st fa fd /\ ∀ (s : Shared) (v : Value), BindsTo s fd ⟨[v], []⟩ [(y, v)] := by
  obtain ⟨f, oc, od, kV, dc, pm, an, cd, ct, sl, a, l, c, k⟩ := d
  have e := hfa.symm.trans (PySem.W.mg_of X G a)
  cases e
  exact ⟨_, fun_mk l c k, fun s v => .of_eq (hb kV dc pm an cd ct v)⟩
end L2
end
section
namespace L2
open PySem PySem.Spec PyProof.Rows
structure ZE (X : Cx) (e : Expr) (t : TE) : Prop where out : PE X e t
structure ZT (X : Cx) (e : Expr) (t : TT) : Prop where out : PT X e t
structure ZW (X : Cx) (e : Expr) (t : TT) : Prop where out : PW X e t
structure ZA (X : Cx) (es : List Expr) (t : TA) : Prop where out : PA X es t
structure ZS (X : Cx) (st : Stmt) (t : TS) : Prop where out : PS X st t
structure ZSs (X : Cx) (st : List Stmt) (t : TS) : Prop where out : PSs X st t
structure ZG (X : Cx) (e : Expr) (t : TG) : Prop where out : PG X e t
structure ZGs (X : Cx) (es : List Expr) (t : TGs) : Prop where out : PGs X es t
structure ZI (X : Cx) (tg iter : Expr) (wi : TI) : Prop where out : PI X tg iter wi
structure ZTs (X : Cx) (es : List Expr) (t : TT) : Prop where out : PTs X es t
structure ZO (X : Cx) (e : Option Expr) (t : TO) : Prop where out : PO X e t
section
variable {X : Cx} {a b c e tg : Expr} {es : List Expr} {te ta tb tc : TE} {t : TA} {pos p p2 : Pos} {x : Str}
theorem zss_nil : ZSs X [] tNext := ⟨pss_nil⟩
theorem zss_cons {st : Stmt} {rest : List Stmt} {t u : TS} (h1 : ZS X st t) (h2 : ZSs X rest u) : ZSs X (st :: rest) (tSeq t u) := ⟨pss_cons h1.out h2.out⟩
theorem zss_one {st : Stmt} {t : TS} (h1 : ZS X st t) : ZSs X [st] t := ⟨pss_one h1.out⟩
theorem zs_set {i : Nat} {pos' : Pos} (hN : X.N.Nodup) (hi : X.N[i]? = some x) (hx : Loc X.env.scope x) (he : ZE X e te) (hs : swapsWith e (some (.Name x pos')) pos.line X.env = pure false := by rfl) (hf : X.fn x = true \/ X.env.scope.names.lookup x = some .local := by first | exact .inl rfl | exact .inr rfl | assumption) :
    ZS X (.Assign [.Name x pos'] e pos) (tAsg te (gName i)) := ⟨ps_set hN hi hx he.out hs hf⟩
theorem zs_for {iter : Expr} {body : List Stmt} {wi : TI} {g : TG} {tb : TS} (hp : PassesOwn (model X.prog X.w) X.A X.env X.xe) (hc : X.calm = true) (hi : ZI X tg iter wi) (hg : ZG X tg g) (hb : ZSs X body tb)
    (hs : ∀ x, foldedSetIterable iter X.env x = pure x := by intro _; rfl) : ZS X (.For tg iter body [] pos) (tFor wi g tb) := ⟨ps_for hp hc hi.out hg.out hb.out hs⟩
theorem zs_while {body : List Stmt} {tc : TT} {tb : TS} (hp : PassesOwn (model X.prog X.w) X.A X.env X.xe) (hc : ZT X c tc) (hb : ZSs X body tb) : ZS X (.While c body [] pos) (tWhile tc tb) := ⟨ps_while hp hc.out hb.out⟩
theorem zs_if {l m : List Stmt} {tc : TT} {t u : TS} (hc : ZT X c tc) (ha : ZSs X l t) (hb : ZSs X m u) : ZS X (.If c l m pos) (tIfS tc t u) := ⟨ps_if hc.out ha.out hb.out⟩
theorem zs_ret (he : ZE X e te) : ZS X (.Return (some e) pos) (tRet te) := ⟨ps_ret he.out⟩
theorem zs_expr (he : ZE X e te) (hs : swapsWith e none pos.line X.env = pure false := by rfl) : ZS X (.Expr e pos) (tDrop te) := ⟨ps_expr he.out hs⟩
theorem zs_asg {g : TG} (he : ZE X e te) (hg : ZG X tg g) (hs : swapsWithSole [tg] e pos.line X.env = pure false := by rfl) (hw : swappedStores [tg] e X.env = pure none := by rfl)
    (h1 : (assignEach [tg] X.env).map (·.2) = [assign tg X.env] := by rfl) : ZS X (.Assign [tg] e pos) (tAsg te g) := ⟨ps_asg he.out hg.out hs hw h1⟩
theorem zs_par {i j : Nat} {y : Str} {ta : TA} {px py pt : Pos} {kt k2 pt2} (hc : X.calm = true) (hN : X.N.Nodup) (hi : X.N[i]? = some x) (hj : X.N[j]? = some y) (hij : i ≠ j)
    (hx : X.env.scope.names.lookup x = some .local) (hy : X.env.scope.names.lookup y = some .local) (ha : ZA X [a, b] ta)
    (hw : swappedStores [.Tuple [.Name x px, .Name y py] kt pt] (.Tuple [a, b] k2 pt2) X.env = pure (some [x, y]))
    (hs : swapsWithSole [.Tuple [.Name x px, .Name y py] kt pt] (.Tuple [a, b] k2 pt2) pos.line X.env = pure false := by rfl) :
    ZS X (.Assign [.Tuple [.Name x px, .Name y py] kt pt] (.Tuple [a, b] k2 pt2) pos) (tPar i j ta) := ⟨ps_par hc hN hi hj hij hx hy ha.out hw hs⟩
theorem ze_int {i j} : ZE X (.Constant (.int i) j pos) (tC (.int i)) := ⟨pe_int⟩
theorem ze_bl {b j} : ZE X (.Constant (.bool b) j pos) (tC (.bl b)) := ⟨pe_bl⟩
theorem ze_non {j} : ZE X (.Constant .none j pos) (tC .non) := ⟨pe_non⟩
theorem ze_str {x : Str} {j} : ZE X (.Constant (.str x) j pos) (tC (.str x)) := ⟨pe_str⟩
theorem zv (i : Nat) (hN : X.N[i]? = some x := by rfl) (hv : Vis X.env.scope x := by first | exact Or.inl rfl | exact Or.inr (Or.inl rfl) | exact Or.inr (Or.inr rfl)) (hd : (x == ("__debug__" : Str)) = false := by decide)
    (hcd : (x == ("__classdict__" : Str)) = false := by decide) : ZE X (.Name x pos) (tVar i) := ⟨pe_var hN hv hd hcd⟩
theorem ze_glob {v : V} {u : Value} (hg : Gl X x) (hm : X.mg x = some u) (r : RelV v u) (hd : (x == ("__debug__" : Str)) = false := by decide) : ZE X (.Name x pos) (tC v) := ⟨pe_glob hg hm r hd⟩
theorem ze_tyn {T : String} (hg : Gl X x) (hm : X.mg x = none) (hv : bootBuiltins x = some (.type T)) (hn : x ≠ "__name__" := by decide) (hd : (x == ("__debug__" : Str)) = false := by decide) : ZE X (.Name x pos) (tC (.ty T)) := ⟨pe_tyn hg hm hv hn hd⟩
theorem ze_op {op : Operator} {r : R2} (ho : OpR X (binaryOp op) r) (ha : ZE X a ta) (hb : ZE X b tb) : ZE X (.BinOp a op b pos) (tOp r ta tb) := ⟨pe_op ho ha.out hb.out⟩
theorem ze_un {op : UnaryOp} {r : V -> Hp -> VK -> Prop} (ho : UnR X (unaryOp op) r) (ha : ZE X a ta) : ZE X (.UnaryOp op a pos) (tUn r ta) := ⟨pe_un ho ha.out⟩
theorem ze_cmpR {op : CmpOp} {r : R2} (ho : OpR X (compareOp op) r) (ha : ZE X a ta) (hb : ZE X b tb) (hm : behindInMarks op b = false) : ZE X (.Compare a [op] [b] pos) (tOp r ta tb) := ⟨pe_cmpR ho ha.out hb.out hm⟩
theorem zt_cmpR {op : CmpOp} {r : R2} (ho : OpR X (compareOp op) r) (ha : ZE X a ta) (hb : ZE X b tb) (hm : behindInMarks op b = false) : ZT X (.Compare a [op] [b] pos) (tTest (tOp r ta tb)) := ⟨pt_cmpR ho ha.out hb.out hm⟩
theorem zt_val {t : TE} (h : ZE X e t) (he : ∀ whole, isTrue e X.env whole = (do let v <- whole; standAt e.pos; holding [v] (truthy v)) := by intro _; rfl) : ZT X e (tB t) := ⟨pt_val h.out he⟩
theorem zt_not {tA : TT} (ha : ZT X a tA) : ZT X (.UnaryOp .Not a pos) (tNot tA) := ⟨pt_not ha.out⟩
theorem ZW.pt {t : TT} (h : ZW X e t) : ZT X e t := ⟨h.out.pt⟩
theorem zw_and1 {tA : TT} (ha : ZT X a tA) : ZW X (.BoolOp .And [a] pos) tA := ⟨pw_and1 ha.out⟩
theorem zw_or1 {tA : TT} (ha : ZT X a tA) : ZW X (.BoolOp .Or [a] pos) tA := ⟨pw_or1 ha.out⟩
theorem zw_and {tA tB' : TT} (ha : ZT X a tA) (hb : ZW X (.BoolOp .And (b :: es) pos) tB') : ZW X (.BoolOp .And (a :: b :: es) pos) (tAnd tA tB') := ⟨pw_and ha.out hb.out⟩
theorem zw_or {tA tB' : TT} (ha : ZT X a tA) (hb : ZW X (.BoolOp .Or (b :: es) pos) tB') : ZW X (.BoolOp .Or (a :: b :: es) pos) (tOr tA tB') := ⟨pw_or ha.out hb.out⟩
theorem ze_one {op} (h : ZE X a ta) : ZE X (.BoolOp op [a] pos) ta := ⟨pe_one h.out⟩
theorem ze_and (ha : ZE X a ta) (hb : ZE X (.BoolOp .And (b :: es) pos) tb) : ZE X (.BoolOp .And (a :: b :: es) pos) (tAndV ta tb) := ⟨pe_and ha.out hb.out⟩
theorem ze_not (ha : ZE X a ta) : ZE X (.UnaryOp .Not a pos) (tNotV ta) := ⟨pe_not ha.out⟩
theorem ze_ix {r : R2} (hr : IxR X r) (ha : ZE X a ta) (hb : ZE X b tb) (hs : PlainIx b) : ZE X (.Subscript a b pos) (tOp r ta tb) := ⟨pe_ix hr ha.out hb.out hs⟩
theorem ze_slice {lo hi : Option Expr} {tl th : TO} {r : V -> Option Int -> Option Int -> Hp -> VK -> Prop} (hr : SlR X r) (he : ZE X e te) (hl : ZO X lo tl) (hu : ZO X hi th) : ZE X (.Subscript e (.Slice lo hi none p2) pos) (tSl r te tl th) := ⟨pe_slice hr he.out hl.out hu.out⟩
theorem zo_none : ZO X none tNoPart := ⟨po_none⟩
theorem zo_some (h : ZE X e te) : ZO X (some e) (tPart te) := ⟨po_some h.out⟩
theorem ze_lst (h : ZA X es t) : ZE X (.List es pos) (tLst t) := ⟨pe_lst h.out⟩
theorem ze_tup {x1} (h : ZA X es t) : ZE X (.Tuple es x1 pos) (tTup t) := ⟨pe_tup h.out⟩
theorem ze_call {CX : CXT} {k : Nat} {f : Addr} {fd : FuncData} {ps : List Str} {sp : Sp} {ds : List Value} {dvs : List V} {E : XK} (F : FnOk X.prog X.w X.K X.mg X.base CX k f fd ps sp) (hr : Room k X.A) (hg : Gl X x) (hm : X.mg x = some (.ref f)) (hk : PySem.W.keepIn X.K (.ref f) = true) (hb : Binds X.K fd ps ds) (hd : Vals dvs ds) (hx : Passes CX X E)
    (ha : ZA X (e :: es) t) (hdb : (x == ("__debug__" : Str)) = false := by decide) (he : starEach (e :: es) X.env = (false, eval e X.env) :: starEach es X.env := by rfl) (hpl : (backTo pos (starEach es X.env)).any (·.1) = false := by rfl) :
    ZE X (.Call (.Name x p) (e :: es) [] pos) (tCall sp dvs E t) := ⟨pe_call F hr hg hm hk hb hd hx ha.out hdb he hpl⟩
theorem ze_callB {id : String} {r : List V -> Hp -> VK -> Prop} (hc : CallR X (.builtin id) r) (hg : Gl X x) (hm : X.mg x = none) (hv : bootBuiltins x = some (.builtin id)) (ha : ZA X (e :: es) t) (hn : x ≠ "__name__" := by decide) (hdb : (x == ("__debug__" : Str)) = false := by decide)
    (he : starEach (e :: es) X.env = (false, eval e X.env) :: starEach es X.env := by rfl) (hpl : (backTo pos (starEach es X.env)).any (·.1) = false := by rfl) : ZE X (.Call (.Name x p) (e :: es) [] pos) (tCB r t) := ⟨pe_callB hc hg hm hv ha.out hn hdb he hpl⟩
theorem ze_callTy {T : String} {r : List V -> Hp -> VK -> Prop} (hc : CallR X (.type T) r) (hg : Gl X x) (hm : X.mg x = none) (hv : bootBuiltins x = some (.type T)) (ha : ZA X (e :: es) t) (hn : x ≠ "__name__" := by decide) (hdb : (x == ("__debug__" : Str)) = false := by decide)
    (he : starEach (e :: es) X.env = (false, eval e X.env) :: starEach es X.env := by rfl) (hpl : (backTo pos (starEach es X.env)).any (·.1) = false := by rfl) : ZE X (.Call (.Name x p) (e :: es) [] pos) (tCB r t) := ⟨pe_callTy hc hg hm hv ha.out hn hdb he hpl⟩
theorem za_nil : ZA X [] tNil := ⟨pa_nil⟩
theorem za_cons (ha : ZE X e te) (hr : ZA X es t) (hs : starEach (e :: es) X.env = (false, eval e X.env) :: starEach es X.env := by rfl) : ZA X (e :: es) (tCons te t) := ⟨pa_cons ha.out hr.out hs⟩
theorem za_i {i : Int} {j : Nat} (hr : ZA X es t) : ZA X (.Constant (.int i) j p :: es) (tCons (tC (.int i)) t) := ⟨pa_i hr.out⟩
theorem za_n (ha : ZE X (.Name x p) te) (hr : ZA X es t) : ZA X (.Name x p :: es) (tCons te t) := ⟨pa_n ha.out hr.out⟩
theorem za_b {op : Operator} (ha : ZE X (.BinOp a op b p) te) (hr : ZA X es t) : ZA X (.BinOp a op b p :: es) (tCons te t) := ⟨pa_b ha.out hr.out⟩
theorem za_s (ha : ZE X (.Subscript a b p) te) (hr : ZA X es t) : ZA X (.Subscript a b p :: es) (tCons te t) := ⟨pa_s ha.out hr.out⟩
theorem za_c {f : Expr} {l : List Expr} {k : List Keyword} (ha : ZE X (.Call f l k p) te) (hr : ZA X es t) : ZA X (.Call f l k p :: es) (tCons te t) := ⟨pa_c ha.out hr.out⟩
theorem za_t {l : List Expr} {k : Nat} (ha : ZE X (.Tuple l k p) te) (hr : ZA X es t) : ZA X (.Tuple l k p :: es) (tCons te t) := ⟨pa_t ha.out hr.out⟩
theorem zg_name {i : Nat} (hN : X.N.Nodup) (hi : X.N[i]? = some x) (hx : Loc X.env.scope x) (hf : X.fn x = true \/ X.env.scope.names.lookup x = some .local := by first | exact .inl rfl | exact .inr rfl | assumption) : ZG X (.Name x pos) (gName i) := ⟨pg_name hN hi hx hf⟩
theorem zg_sub {o i : Expr} {to ti : TE} {t : TSet} (ho : ZE X o to) (hi : ZE X i ti) (hs : PSet X t) (ha : ∀ v, assign (.Subscript o i pos) X.env v = (do
      let ov <- holding [v] (eval o X.env)
      let iv <- holding [v, ov] (eval i X.env)
      standAt pos
      holding [v, ov, iv] (setItem ov iv v)
      release [v, ov, iv] []) := by intro _; rfl) : ZG X (.Subscript o i pos) (gSub to ti t) := ⟨pg_sub ho.out hi.out hs ha⟩
theorem zgs_nil : ZGs X [] gNil := ⟨pgs_nil⟩
theorem zgs_cons {t : TG} {u : TGs} (h1 : ZG X e t) (h2 : ZGs X es u) (hs : (assignEach (e :: es) X.env).map (·.2) = assign e X.env :: (assignEach es X.env).map (·.2) := by rfl) : ZGs X (e :: es) (gCons t u) := ⟨pgs_cons h1.out h2.out hs⟩
theorem zg_tup {k : Nat} {t : TGs} {n : Nat} (hc : X.calm = true) (h : ZGs X es t) (hn : (assignEach es X.env).length = n := by rfl) (hst : (assignEach es X.env).findIdx? (·.1) = none := by rfl) : ZG X (.Tuple es k pos) (gTup X.K n t) := ⟨pg_tup hc h.out hn hst⟩
theorem zi_list (hl : ZE X e te) : ZI X tg e (iList X.K te) := ⟨pi_list hl.out⟩
theorem zi_tup (hl : ZE X e te) : ZI X tg e (iTup X.K te) := ⟨pi_tup hl.out⟩
theorem zi_range1 {ta : TA} (hg : Gl X "range") (hm : X.mg "range" = none) (ha : ZA X [a] ta) (hs : starEach [a] X.env = [(false, eval a X.env)] := by rfl) : ZI X tg (.Call (.Name "range" p) [a] [] pos) (iRng1 ta) := ⟨pi_range1 hg hm ha.out hs⟩
theorem zts_nil : ZTs X [] tAll := ⟨pts_nil⟩
theorem zts_one {t : TT} (h : ZT X c t) : ZTs X [c] t := ⟨pts_one h.out⟩
theorem ze_comp {own : List Str} {scope sc : Scope} {iter elt : Expr} {ifs : List Expr} {wi : TI} {g : TG} {tt : TT} {N0 P0 : List Str} (S0 : FnScope N0 P0 sc) (hc : X.calm = true) (S1 : CompScope own N0 sc scope) (hi : ZI X tg iter wi)
    (hg : ∀ C fp s H, (maskN own N0).Nodup -> ZG (cxComp X own scope C fp s H) tg g) (ht : ∀ C fp s H, ZTs (cxComp X own scope C fp s H) ifs tt) (he : ∀ C fp s H, ZE (cxComp X own scope C fp s H) elt te)
    (hs : ∀ x, foldedSetIterable iter X.env x = pure x := by intro _; rfl) (hN0 : X.N = N0 := by rfl) (hsc : X.env.scope = sc := by rfl) : ZE X (.ListComp elt [⟨tg, iter, ifs, 0⟩] scope pos) (tCompB own.length wi g tt te) :=
  ⟨pe_comp S0 hc S1 hi.out (fun C fp s H n => (hg C fp s H n).out) (fun C fp s H => (ht C fp s H).out) (fun C fp s H => (he C fp s H).out) hs hN0 hsc⟩
theorem zs_comp {own : List Str} {scope sc : Scope} {iter elt : Expr} {ifs : List Expr} {wi : TI} {g : TG} {tt : TT} {i : Nat} {pos' spos : Pos} {N0 P0 : List Str} (S0 : FnScope N0 P0 sc) (hc : X.calm = true) (S1 : CompScope own N0 sc scope) (hi : ZI X tg iter wi)
    (hg : ∀ C fp s H, (maskN own N0).Nodup -> ZG (cxComp X own scope C fp s H) tg g) (ht : ∀ C fp s H, ZTs (cxComp X own scope C fp s H) ifs tt) (he : ∀ C fp s H, ZE (cxComp X own scope C fp s H) elt te)
    (hN : X.N.Nodup) (hiN : X.N[i]? = some x) (hx : Loc X.env.scope x)
    (hsw : swapsWith (.ListComp elt [⟨tg, iter, ifs, 0⟩] scope pos) (some (.Name x pos')) spos.line X.env = pure true)
    (hs : ∀ x, foldedSetIterable iter X.env x = pure x := by intro _; rfl) (hf : X.fn x = true \/ X.env.scope.names.lookup x = some .local := by first | exact .inl rfl | exact .inr rfl | assumption) (hN0 : X.N = N0 := by rfl) (hsc : X.env.scope = sc := by rfl) :
    ZS X (.Assign [.Name x pos'] (.ListComp elt [⟨tg, iter, ifs, 0⟩] scope pos) spos) (tAsg (tCompB own.length wi g tt te) (gName i)) :=
  ⟨ps_comp S0 hc S1 hi.out (fun C fp s H n => (hg C fp s H n).out) (fun C fp s H => (ht C fp s H).out) (fun C fp s H => (he C fp s H).out) hN hiN hx hsw hs hf hN0 hsc⟩
theorem zi_zip {ta : TA} {pt : Pos} {elts : List Expr} {x1} (hg : Gl X "zip") (hm : X.mg "zip" = none) (ha : ZA X [a, b] ta) (hs : starEach [a, b] X.env = [(false, eval a X.env), (false, eval b X.env)] := by rfl) (hs2 : starEach [b] X.env = [(false, eval b X.env)] := by rfl) :
    ZI X (.Tuple elts x1 pt) (.Call (.Name "zip" p) [a, b] [] pos) (iZip X.K ta) := ⟨pi_zip hg hm ha.out hs hs2⟩
theorem zg_pair {own : List Str} {scope : Scope} {C : Addr} {fp : List Addr} {s : Shared} {H : Hp} {x y : Str} {px py : Pos} {k : Nat} (hc : X.calm = true) (nd : (cxComp X own scope C fp s H).N.Nodup) (h0 : (cxComp X own scope C fp s H).N[0]? = some x) (h1 : (cxComp X own scope C fp s H).N[1]? = some y)
    (l0 : (cxComp X own scope C fp s H).env.scope.names.lookup x = some .local) (l1 : (cxComp X own scope C fp s H).env.scope.names.lookup y = some .local) : ZG (cxComp X own scope C fp s H) (.Tuple [.Name x px, .Name y py] k pos) (gPair X.K) := ⟨pg_pair hc nd h0 h1 l0 l1⟩
end
section
variable {P : Program} {w : World} {K : PySem.W.Frag} {mg : Str -> Option Value} {base : Heap}
theorem Fun.okZ {x qual : Str} {st : Stmt} {f : Addr} {fd : FuncData} {N ps : List Str} {k : Nat} {sp : Sp} (F : Fun K x qual st f fd) (S : FnScope N ps (defScope st)) (len : ∀ vs H Q E, sp vs H Q E -> vs.length = ps.length)
    (hbody : ∀ (cdv : Value) (A : Around) (outer : List Env) (s : Shared) (H : Hp) (vs : List V) (Q : VK) (E : XK), Room k (A.deeper (envOfC qual (defScope st) s.heap.objs.size f cdv)) -> sp vs H Q E ->
      ∃ t, ZSs (cxOf CX0 P w K mg base N qual (defScope st) f cdv A outer s H E).nox (defBody st) t /\ t { nx := fun _ H' => Q .non H', rt := Q } (start N vs) H) : FnOk P w K mg base CX0 (k + 1) f fd ps sp :=
  F.ok S len fun cdv A outer s H vs Q E hr h => let ⟨t, b, q⟩ := hbody cdv A outer s H vs Q E hr h; ⟨t, b.out, q⟩
end
end L2
end
section
namespace L2
open PySem PySem.Spec PyProof.Rows
open PySem.W (Dat)
noncomputable def NL (H H' : Hp) : Prop := ∀ b o, (∀ ys, o ≠ HO.lst ys) -> H b = some o -> H' b = some o
theorem Same.nl {H H' : Hp} (e : Same H H') : NL H H' := fun b o _ h => e b o h
theorem NL.upd {H : Hp} {D : Addr} {ys : List V} {o : HO} (h : H D = some (.lst ys)) : NL H (L2.upd H D o) := fun b u n q => by
  rw [upd_ne (fun z => ?_)]
  . exact q
  . subst z; rw [h] at q; cases q; exact n ys rfl
theorem NL.trans {H H1 H2 : Hp} (a : NL H H1) (b : NL H1 H2) : NL H H2 := fun c o n h => b c o n (a c o n h)
section
variable {K : PySem.W.Frag} {H : Hp} {σ : St} {te : TE} {Q : VK} {J : It} {xs : List V}
theorem comp_pos (S : Src J H xs) (hz : xs.length <= sizeLine) (Pd : Nat -> V -> Hp -> Prop) (hst : ∀ i v H H', NL H H' -> Pd i v H -> Pd i v H')
    (turn : ∀ i x, xs[i]? = some x -> ∀ H', Same H H' -> ∀ R : VK, (∀ v H5, Same H' H5 -> Pd i v H5 -> R v H5) -> te (some x :: σ) H' R)
    (fin : ∀ D H' ys, Same H H' -> H' D = some (.lst ys) -> H D = none -> ys.length = xs.length -> (∀ i v, ys[i]? = some v -> Pd i v H') -> Q (.ref D) H') :
    CompW 1 J (gName 0) tAll te σ H Q := by
  intro D hD
  refine ⟨fun i m σ' H' => m = xs.length - i /\ i <= xs.length /\ (∃ o, σ' = o :: σ) /\ Same H H' /\ ∃ ys, H' D = some (.lst ys) /\ ys.length = i /\ ∀ j v, ys[j]? = some v -> Pd j v H', ⟨xs.length, by omega, Nat.zero_le _, ⟨_, rfl⟩, Same.new hD _, [], upd_same, rfl, fun j v e => by simp at e⟩, ?_⟩
  rintro i m σ' H' ⟨rfl, hi, ⟨o, rfl⟩, hs, ys, hy, hl, hf⟩
  obtain ⟨stop, each⟩ := S H' hs
  by_cases hlt : i < xs.length
  . have hx : xs[i]? = some xs[i] := by simp [hlt]
    obtain ⟨go, yl⟩ := each i xs[i] hx
    refine .inr ⟨go, fun y H2 q => ?_⟩
    obtain ⟨rfl, rfl⟩ := yl y H2 q
    unfold gName tAll
    dsimp only
    rw [if_pos rfl]
    show te (some xs[i] :: σ) H' _
    refine turn i _ hx H' hs _ fun v H5 s5 f5 => ?_
    have hy5 := s5 _ _ hy
    refine ⟨ys, hy5, by omega, xs.length - (i + 1), by omega, rfl, hlt, ⟨_, rfl⟩, (hs.trans s5).snoc hD, ys ++ [v], upd_same, by rw [List.length_append, hl]; rfl, fun j u e => ?_⟩
    have nl := NL.upd (o := .lst (ys ++ [v])) hy5
    by_cases hj : j < ys.length
    . rw [List.getElem?_append_left hj] at e
      exact hst _ _ _ _ (s5.nl.trans nl) (hf j u e)
    . rw [List.getElem?_append_right (by omega)] at e
      have ej : j - ys.length = 0 := by
        have := (List.getElem?_eq_some_iff.mp e).1
        simp at this; omega
      rw [ej] at e
      cases e
      have : j = i := by omega
      subst this
      exact hst _ _ _ _ nl f5
  . have e : i = xs.length := by omega
    subst e
    exact .inl ⟨stop, fin D H' ys hs hy hD hl hf⟩
theorem get3 {α : Type} {x1 x2 x3 x : α} {i : Nat} (h : [x1, x2, x3][i]? = some x) : (i = 0 /\ x1 = x) \/ (i = 1 /\ x2 = x) \/ (i = 2 /\ x3 = x) := by
  match i, h with
  | 0, h => exact .inl ⟨rfl, by simpa using h⟩
  | 1, h => exact .inr (.inl ⟨rfl, by simpa using h⟩)
  | 2, h => exact .inr (.inr ⟨rfl, by simpa using h⟩)
theorem three_of {α : Type} {ys : List α} (h : ys.length = 3) : ∃ a b c, ys = [a, b, c] := by
  match ys, h with
  | [a, b, c], _ => exact ⟨a, b, c, rfl⟩
theorem comp3 {x1 x2 x3 : V} {n1 n2 n3 : Int} (S : Src J H [x1, x2, x3])
    (t1 : ∀ H', Same H H' -> ∀ R : VK, (∀ H5, Same H' H5 -> R (.int n1) H5) -> te (some x1 :: σ) H' R)
    (t2 : ∀ H', Same H H' -> ∀ R : VK, (∀ H5, Same H' H5 -> R (.int n2) H5) -> te (some x2 :: σ) H' R)
    (t3 : ∀ H', Same H H' -> ∀ R : VK, (∀ H5, Same H' H5 -> R (.int n3) H5) -> te (some x3 :: σ) H' R)
    (fin : ∀ D H', Same H H' -> H' D = some (.lst ([n1, n2, n3].map V.int)) -> H D = none -> Q (.ref D) H') :
    CompW 1 J (gName 0) tAll te σ H Q := by
  refine comp_pos S (show 3 <= sizeLine by decide) (fun i v _ => [V.int n1, .int n2, .int n3][i]? = some v) (fun _ _ _ _ _ h => h) (fun i x hx H' s R k => ?_) fun D H' ys s h n l p => ?_
  . rcases get3 hx with ⟨rfl, rfl⟩ | ⟨rfl, rfl⟩ | ⟨rfl, rfl⟩
    . exact t1 H' s R fun H5 s5 => k _ _ s5 rfl
    . exact t2 H' s R fun H5 s5 => k _ _ s5 rfl
    . exact t3 H' s R fun H5 s5 => k _ _ s5 rfl
  . obtain ⟨a, b, c, rfl⟩ := three_of l
    have e1 := p 0 a rfl
    have e2 := p 1 b rfl
    have e3 := p 2 c rfl
    cases e1; cases e2; cases e3
    exact fin D H' s h n
end
theorem for_zip {K : PySem.W.Frag} {l1 l2 : Addr} {xs ys : List V} {g : TG} {tb : TS} {D : Ends} {σ : St} {H : Hp} (Pv : Nat -> St -> Hp -> Prop) (h0 : Pv 0 σ H) (hlen : ys.length = xs.length)
    (hl : ∀ i σ H, i <= xs.length -> Pv i σ H -> SqT K H l1 xs /\ SqT K H l2 ys)
    (hs : ∀ i x y σ H p, xs[i]? = some x -> ys[i]? = some y -> Pv i σ H -> H p = none -> g (.ref p) σ (upd H p (.tup [x, y])) fun σ2 H2 => tb { D with nx := Pv (i + 1), ct := Pv (i + 1), bk := D.nx } σ2 H2) (hd : ∀ σ H, Pv xs.length σ H -> D.nx σ H) :
    ∃ W : Nat -> Nat -> St -> Hp -> Prop, (∃ m, W 0 m σ H) /\ ∀ i m σ H, W i m σ H ->
      ((Itz K l1 l2).stop i H /\ D.nx σ H) \/ ((Itz K l1 l2).go i H /\ ∃ N : St -> Hp -> Prop, (∀ σ' H', N σ' H' -> ∃ m', m' < m /\ W (i + 1) m' σ' H') /\ ∀ x H', (Itz K l1 l2).yld i H x H' -> g x σ H' fun σ2 H2 => tb { D with nx := N, ct := N, bk := D.nx } σ2 H2) := by
  refine ⟨fun i m σ H => m = xs.length - i /\ i <= xs.length /\ Pv i σ H, ⟨xs.length, by simp, Nat.zero_le _, h0⟩, ?_⟩
  rintro i m σ H ⟨rfl, hi, p⟩
  obtain ⟨q1, q2⟩ := hl i σ H hi p
  by_cases hlt : i < xs.length
  . have ex : xs[i]? = some xs[i] := by simp [hlt]
    have ey : ys[i]? = some (ys[i]'(by omega)) := by simp [hlen, hlt]
    refine .inr ⟨⟨xs, ys, _, _, q1, q2, ex, ey⟩, Pv (i + 1), fun σ' H' p' => ⟨xs.length - (i + 1), by omega, rfl, hlt, p'⟩, fun x H' y => ?_⟩
    obtain ⟨a, ha, rfl, e⟩ := y
    rw [e xs ys _ _ q1 q2 ex ey]
    exact hs i _ _ σ H a ex ey p ha
  . have e : i = xs.length := by omega
    subst e
    exact .inl ⟨⟨xs, q1, Nat.le_refl _, ys, q2⟩, hd σ H p⟩
section
variable {X : Cx} {e o : Expr} {to te : TE} {apos cpos : Pos}
theorem ze_append (ho : ZE X o to) (ha : ZE X e te) (hbase : attributeBase o "append" X.env (eval o X.env) = eval o X.env := by rfl)
    (hfew : ((backTo cpos (starEach [e] X.env)).all (fun x => !x.1) && (backToKw cpos (keywordEach [] X.env)).all (fun x => x.1.isSome)
      && decide ([e].length + ([] : List Keyword).length + (if ([] : List Keyword).isEmpty then 0 else 1) < 30)) = true := by rfl)
    (hline : (apos.endLine == cpos.line) = true := by rfl) (hs : starEach [e] X.env = (false, eval e X.env) :: starEach [] X.env := by rfl) :
    ZE X (.Call (.Attribute o "append" apos) [e] [] cpos) (tBM X.K "list" rAppend to (tCons te tNil)) :=
  ⟨pe_bm PySem.F.plainAttrs_list slot_list_append (by rfl) mt_append ho.out (pa_cons ha.out pa_nil hs) hbase hfew hline hs⟩
end
section
variable {X : Cx} {own : List Str} {scope : Scope} {C : Addr} {fp : List Addr} {s : Shared} {H : Hp}
theorem ix_tupC : IxR (cxComp X own scope C fp s H) (rIxT X.K) := ix_tup
theorem ix_listC : IxR (cxComp X own scope C fp s H) (rIxL X.K) := ix_list
theorem sl_tupC : SlR (cxComp X own scope C fp s H) (rSlT X.K) := sl_tup
end
noncomputable def rCatW (K : PySem.W.Frag) : R2 := fun x y H Q => ∃ a b xs ys, x = .ref a /\ y = .ref b /\ SqT K H a xs /\ SqT K H b ys /\ xs.length + ys.length <= sizeLine /\ ∀ p H', Same H H' -> SqT K H' p (xs ++ ys) -> Q (.ref p) H'
section
variable {X : Cx}
theorem op_catW : OpR X (binaryOp .Add) (rCatW X.K) := by
  intro pins s σ H x y v u Q I rx ry h
  obtain ⟨a, b, xs, ys, rfl, rfl, ha, hb, hz, q⟩ := h
  by_cases hx : xs = []
  . subst hx
    cases rx
    cases ry
    obtain ⟨its, r1, p1, _⟩ := I.tuple ha
    obtain ⟨its2, r2, p2, _⟩ := I.tuple hb
    obtain ⟨m, F⟩ := I.fr
    have e : its = [] := r1.nil_iff.mpr rfl
    refine add_tuples (news := []) F (fun p hp => by simp at hp) p1 p2 (fun _ => ⟨.ref b, H, I, rfl, q b H (Same.refl _) (by simpa using hb)⟩) (fun n => absurd e n) (fun n => absurd e n) ?_
    rw [<- r1.length, <- r2.length]; exact hz
  . refine op_catT pins s σ H _ _ v u Q I rx ry ⟨a, b, xs, ys, rfl, rfl, ha, hb, hx, hz, fun e => ?_, fun e p hp => ?_⟩
    . subst e; exact q a H (Same.refl _) (by rw [List.append_nil]; exact ha)
    . exact q p _ (Same.new hp _) (SqT.of upd_same)
end
end L2
end
section
namespace Num
noncomputable def gcdN (ns : List Int) : Nat := ns.foldl (fun d n => Nat.gcd d n.natAbs) 0
theorem gcdN_snoc (ns : List Int) (n : Int) : gcdN (ns ++ [n]) = Nat.gcd (gcdN ns) n.natAbs := by
  unfold gcdN; rw [List.foldl_append]; rfl
theorem foldl_gcd (ns : List Int) : ∀ d : Nat, ns.foldl (fun d n => Nat.gcd d n.natAbs) d = Nat.gcd d (gcdN ns) := by
  induction ns with
  | nil => intro d; simp [gcdN]
  | cons n ns ih =>
    intro d
    unfold gcdN
    rw [List.foldl_cons, List.foldl_cons, ih, ih, Nat.gcd_assoc, Nat.gcd_zero_left]
theorem gcdN_cons (n : Int) (ns : List Int) : gcdN (n :: ns) = Nat.gcd n.natAbs (gcdN ns) := by
  show List.foldl _ _ _ = _
  rw [List.foldl_cons, foldl_gcd, Nat.gcd_zero_left]
theorem gcdN_dvd : ∀ {ns : List Int} {n : Int}, n ∈ ns -> (gcdN ns : Int) ∣ n
  | m :: ns, n, h => by
    rw [gcdN_cons]
    rcases List.mem_cons.mp h with rfl | h
    . exact Int.ofNat_dvd_left.mpr (Nat.gcd_dvd_left _ _)
    . exact Int.dvd_trans (Int.natCast_dvd_natCast.mpr (Nat.gcd_dvd_right _ _)) (gcdN_dvd h)
theorem gcdN_zero : ∀ {ns : List Int}, gcdN ns = 0 -> ∀ n ∈ ns, n = 0
  | m :: ns, h, n, hn => by
    rw [gcdN_cons] at h
    obtain ⟨h1, h2⟩ := Nat.gcd_eq_zero_iff.mp h
    rcases List.mem_cons.mp hn with rfl | hn
    . omega
    . exact gcdN_zero h2 n hn
theorem gcdN_pos {ns : List Int} (h : ∃ n ∈ ns, n ≠ 0) : 0 < gcdN ns := by
  obtain ⟨n, hn, h0⟩ := h
  rcases Nat.eq_zero_or_pos (gcdN ns) with z | z
  . exact absurd (gcdN_zero z n hn) h0
  . exact z
theorem gcdN_mul (c : Int) (ns : List Int) : gcdN (ns.map (c * ·)) = c.natAbs * gcdN ns := by
  induction ns with
  | nil => simp [gcdN]
  | cons n ns ih => rw [List.map_cons, gcdN_cons, gcdN_cons, ih, Int.natAbs_mul, Nat.gcd_mul_left]
theorem gcdN_le {ns : List Int} {n : Int} (h : n ∈ ns) (h0 : n ≠ 0) : gcdN ns <= n.natAbs := Nat.le_of_dvd (by omega) (Int.ofNat_dvd_left.mp (gcdN_dvd h))
noncomputable def fst0 : List Int -> Int
  | [] => 0
  | x :: r => if x = 0 then fst0 r else x
theorem fst0_mul (c : Int) : ∀ ns : List Int, fst0 (ns.map (c * ·)) = c * fst0 ns
  | [] => by simp [fst0]
  | x :: r => by
    rw [List.map_cons, fst0, fst0, fst0_mul c r]
    by_cases hc : c = 0
    . subst hc; simp
    . by_cases hx : x = 0
      . simp [hx]
      . rw [if_neg (Int.mul_ne_zero hc hx), if_neg hx]
theorem fst0_ne : ∀ {ns : List Int}, (∃ n ∈ ns, n ≠ 0) -> fst0 ns ≠ 0
  | x :: r, ⟨n, hn, h0⟩ => by
    rw [fst0]
    split
    . rename_i hx
      rcases List.mem_cons.mp hn with rfl | hn
      . exact absurd hx h0
      . exact fst0_ne ⟨n, hn, h0⟩
    . assumption
noncomputable def unit (ns : List Int) : Int := if fst0 ns < 0 then -(gcdN ns : Int) else gcdN ns
noncomputable def pl (ns : List Int) : List Int := ns.map fun n => n / unit ns
theorem unit_ne {ns : List Int} (h : ∃ n ∈ ns, n ≠ 0) : unit ns ≠ 0 := by
  have := gcdN_pos h
  unfold unit; split <;> omega
theorem unit_dvd {ns : List Int} {n : Int} (h : n ∈ ns) : unit ns ∣ n := by
  unfold unit; split
  . exact Int.neg_dvd.mpr (gcdN_dvd h)
  . exact gcdN_dvd h
theorem pl_mul {ns : List Int} : (pl ns).map (unit ns * ·) = ns := by
  unfold pl
  rw [List.map_map]
  conv => rhs; rw [<- List.map_id ns]
  refine List.map_congr_left fun n hn => ?_
  show unit ns * (n / unit ns) = n
  exact Int.mul_ediv_cancel' (unit_dvd hn)
theorem unit_natAbs (ns : List Int) : (unit ns).natAbs = gcdN ns := by
  unfold unit; split <;> omega
theorem gcd_pl {ns : List Int} (h : ∃ n ∈ ns, n ≠ 0) : gcdN (pl ns) = 1 := by
  have e := gcdN_mul (unit ns) (pl ns)
  rw [pl_mul, unit_natAbs] at e
  have p := gcdN_pos h
  exact Nat.eq_of_mul_eq_mul_left p (by omega)
theorem fst_pl {ns : List Int} (h : ∃ n ∈ ns, n ≠ 0) : 0 < fst0 (pl ns) := by
  have e := fst0_mul (unit ns) (pl ns)
  rw [pl_mul] at e
  have p := gcdN_pos h
  have f := fst0_ne h
  by_cases hn : fst0 ns < 0
  . have u : unit ns = -(gcdN ns : Int) := if_pos hn
    rw [u] at e
    refine Int.not_le.mp fun z => ?_
    have : 0 <= -(gcdN ns : Int) * fst0 (pl ns) := Int.mul_nonneg_of_nonpos_of_nonpos (by omega) z
    omega
  . have u : unit ns = (gcdN ns : Int) := if_neg hn
    rw [u] at e
    refine Int.not_le.mp fun z => ?_
    have : (gcdN ns : Int) * fst0 (pl ns) <= 0 := Int.mul_nonpos_of_nonneg_of_nonpos (by omega) z
    omega
theorem nz_pl {ns : List Int} (h : ∃ n ∈ ns, n ≠ 0) : ∃ n ∈ pl ns, n ≠ 0 := by
  obtain ⟨n, hn, h0⟩ := h
  refine ⟨n / unit ns, List.mem_map.mpr ⟨n, hn, rfl⟩, fun z => h0 ?_⟩
  have := Int.mul_ediv_cancel' (unit_dvd hn)
  rw [z] at this; omega
theorem pl_of_mul {ms : List Int} {c : Int} (hc : c ≠ 0) (hg : gcdN ms = 1) (hf : 0 < fst0 ms) : pl (ms.map (c * ·)) = ms := by
  have u : unit (ms.map (c * ·)) = c := by
    unfold unit
    rw [gcdN_mul, hg, fst0_mul]
    by_cases h : c < 0
    . rw [if_pos (Int.mul_neg_of_neg_of_pos h hf)]; omega
    . rw [if_neg (by have := Int.mul_pos (show 0 < c by omega) hf; omega)]; omega
  unfold pl
  rw [u, List.map_map]
  conv => rhs; rw [<- List.map_id ms]
  refine List.map_congr_left fun n hn => ?_
  show c * n / c = n
  exact Int.mul_ediv_cancel_left n hc
theorem pl_scale {ns : List Int} {c : Int} (hc : c ≠ 0) (h : ∃ n ∈ ns, n ≠ 0) : pl (ns.map (c * ·)) = pl ns := by
  have e : ns.map (c * ·) = (pl ns).map ((c * unit ns) * ·) := by
    conv => lhs; rw [<- pl_mul (ns := ns)]
    rw [List.map_map]
    refine List.map_congr_left fun n _ => ?_
    show c * (unit ns * n) = c * unit ns * n
    rw [Int.mul_assoc]
  rw [e]
  exact pl_of_mul (Int.mul_ne_zero hc (unit_ne h)) (gcd_pl h) (fst_pl h)
theorem pl_pl {ns : List Int} (h : ∃ n ∈ ns, n ≠ 0) : pl (pl ns) = pl ns := by
  have := pl_of_mul (ms := pl ns) (c := 1) (by decide) (gcd_pl h) (fst_pl h)
  simpa using this
theorem pl_length (ns : List Int) : (pl ns).length = ns.length := List.length_map _
theorem pl_le {ns : List Int} (h : ∃ n ∈ ns, n ≠ 0) {m : Int} (hm : m ∈ pl ns) : ∃ n ∈ ns, m.natAbs <= n.natAbs := by
  obtain ⟨n, hn, rfl⟩ := List.mem_map.mp hm
  refine ⟨n, hn, ?_⟩
  have e := Int.mul_ediv_cancel' (unit_dvd hn)
  have e2 := congrArg Int.natAbs e
  rw [Int.natAbs_mul, unit_natAbs] at e2
  have p := gcdN_pos h
  calc (n / unit ns).natAbs = 1 * (n / unit ns).natAbs := by omega
    _ <= gcdN ns * (n / unit ns).natAbs := Nat.mul_le_mul_right _ p
    _ = n.natAbs := e2
end Num
end
section
namespace Num
noncomputable def qm : List Int -> List Int -> List Int
  | [a, b, c, d], [e, f, g, h] => [a * e - b * f - c * g - d * h, a * f + b * e + c * h - d * g, a * g - b * h + c * e + d * f, a * h + b * g - c * f + d * e]
  | _, _ => []
noncomputable def cj : List Int -> List Int
  | [a, b, c, d] => [a, -b, -c, -d]
  | _ => []
noncomputable def nrm : List Int -> Int
  | [a, b, c, d] => a * a + b * b + c * c + d * d
  | _ => 0
theorem four_of {ns : List Int} (h : ns.length = 4) : ∃ a b c d, ns = [a, b, c, d] := by
  match ns, h with
  | [a, b, c, d], _ => exact ⟨a, b, c, d, rfl⟩
theorem sq_nn (a : Int) : 0 <= a * a := by
  rcases Int.le_total 0 a with h | h
  . exact Int.mul_nonneg h h
  . exact Int.mul_nonneg_of_nonpos_of_nonpos h h
theorem sq_pos {a : Int} (h : a ≠ 0) : 0 < a * a := by
  have := sq_nn a
  have : a * a ≠ 0 := Int.mul_ne_zero h h
  omega
theorem nrm_pos {ns : List Int} (h : ns.length = 4) (hz : ∃ n ∈ ns, n ≠ 0) : 0 < nrm ns := by
  obtain ⟨a, b, c, d, rfl⟩ := four_of h
  obtain ⟨n, hn, h0⟩ := hz
  have ha := sq_nn a
  have hb := sq_nn b
  have hc := sq_nn c
  have hd := sq_nn d
  have hp := sq_pos h0
  show 0 < a * a + b * b + c * c + d * d
  simp only [List.mem_cons, List.mem_nil_iff, or_false] at hn
  rcases hn with rfl | rfl | rfl | rfl <;> omega
noncomputable def Bd (b : Nat) (ns : List Int) : Prop := ∀ n ∈ ns, n.natAbs <= b
theorem bd_pl {ns : List Int} {x : Nat} (hz : ∃ n ∈ ns, n ≠ 0) (hx : Bd x ns) : Bd x (pl ns) := fun m hm => let ⟨n, hn, hle⟩ := pl_le hz hm; Nat.le_trans hle (hx n hn)
end Num
end
section
namespace K0
open PySem L2 Num
section
variable {K : PySem.W.Frag}
noncomputable def spCD (K : PySem.W.Frag) : Sp := fun vs H Q _ => ∃ (a : Addr) (ns : List Int), vs = [.ref a] /\ SqT K H a (ns.map V.int) /\ Q (.int (gcdN ns)) H
theorem gcd_step {a b : Int} (ha : 0 <= a) (hb : 0 < b) : Nat.gcd b.toNat (a % b).toNat = Nat.gcd a.toNat b.toNat := by
  have h1 : (a % b).toNat = a.toNat % b.toNat := by
    have e := Int.toNat_emod ha (Int.le_of_lt hb)
    exact e
  rw [h1, Nat.gcd_comm, <- Nat.gcd_rec, Nat.gcd_comm]
noncomputable def Sm (ns : List Int) : Prop := ∀ n ∈ ns, n.natAbs < 2 ^ 9000
noncomputable def spT (K : PySem.W.Frag) (pre : List Int -> Prop) (fn : List Int -> List Int) : Sp := fun vs H Q _ => ∃ (a : Addr) (ns : List Int), vs = [.ref a] /\ SqT K H a (ns.map V.int) /\ ns.length <= 1000 /\ pre ns /\
  ∀ (r : Addr) (H' : Hp), Same H H' -> H' r = some (.tup ((fn ns).map V.int)) -> Q (.ref r) H'
noncomputable def red (ns : List Int) : List Int := ns.map fun n => n / (gcdN ns : Int)
theorem gcd_small {ns : List Int} (h : ∃ n ∈ ns, n ≠ 0) (hs : Sm ns) : ((gcdN ns : Nat) : Int).natAbs.log2 < 9000 := by
  obtain ⟨n, hn, h0⟩ := h
  have h1 := gcdN_le hn h0
  have h2 := hs n hn
  have h3 : ((gcdN ns : Nat) : Int).natAbs < 2 ^ 9000 := by
    rw [Int.natAbs_natCast]
    exact Nat.lt_of_le_of_lt h1 h2
  exact (Nat.log2_lt (by have := gcdN_pos ⟨n, hn, h0⟩; omega)).mpr h3
noncomputable def sop (ns ms : List Int) : Int := (List.zipWith (· * ·) ns ms).sum
theorem mulOk_of {i j : Int} (hi : i.natAbs < 2 ^ 100000) (hj : j.natAbs < 2 ^ 100000) : IntMulOk i j := by
  have b : ∀ k : Int, k.natAbs < 2 ^ 100000 -> Builtin.Int.intBits k <= 2 ^ 20 := fun k hk => by
    unfold Builtin.Int.intBits
    split
    . exact Nat.zero_le _
    . rename_i h0
      have hne : k.natAbs ≠ 0 := by
        intro z
        apply h0
        have : k = 0 := by omega
        simp [this]
      have := (Nat.log2_lt hne).mpr hk
      omega
  exact IntMulOk.of_bits (b i hi) (b j hj)
theorem pow_lift {n : Nat} (h : n < 2 ^ 9000) : n < 2 ^ 100000 := Nat.lt_of_lt_of_le h (Nat.pow_le_pow_right (by decide) (by decide))
noncomputable def spSop (K : PySem.W.Frag) : Sp := fun vs H Q _ => ∃ (a b : Addr) (ns ms : List Int), vs = [.ref a, .ref b] /\ SqT K H a (ns.map V.int) /\ SqT K H b (ms.map V.int) /\ ns.length <= 1000 /\ ms.length = ns.length /\ Sm ns /\ Sm ms /\
  ∀ (H' : Hp), Same H H' -> Q (.int (sop ns ms)) H'
noncomputable def spSize (K : PySem.W.Frag) : Sp := fun vs H Q _ => ∃ (a : Addr) (ns : List Int), vs = [.ref a] /\ SqT K H a (ns.map V.int) /\ ns.length <= 1000 /\ Sm ns /\ ∀ (H' : Hp), Same H H' -> Q (.int (sop ns ns)) H'
theorem lex_fst0 : ∀ {l : List Int} {n : Nat}, l.length = n -> HT.lexLt l (List.replicate n 0) = decide (fst0 l < 0)
  | [], n, h => by subst h; rfl
  | x :: r, n, h => by
    subst h
    rw [List.length_cons, List.replicate_succ, HT.lexLt_cons, fst0, lex_fst0 rfl]
    by_cases hx : x = 0
    . rw [if_pos hx, if_pos hx]
    . rw [if_neg hx, if_neg hx]
theorem red_mul (ns : List Int) : (red ns).map ((gcdN ns : Int) * ·) = ns := by
  unfold red
  rw [List.map_map]
  conv => rhs; rw [<- List.map_id ns]
  refine List.map_congr_left fun n hn => ?_
  exact Int.mul_ediv_cancel' (gcdN_dvd hn)
theorem plain_eq {ns : List Int} (h : ∃ n ∈ ns, n ≠ 0) : (if fst0 (red ns) < 0 then (red ns).map (fun n => -n) else red ns) = pl ns := by
  have e := fst0_mul (gcdN ns) (red ns)
  rw [red_mul] at e
  have p := gcdN_pos h
  by_cases hn : fst0 (red ns) < 0
  . rw [if_pos hn]
    have u : unit ns = -(gcdN ns : Int) := if_pos (by rw [e]; exact Int.mul_neg_of_pos_of_neg (by omega) hn)
    unfold pl red
    rw [u, List.map_map]
    refine List.map_congr_left fun n _ => ?_
    show -(n / (gcdN ns : Int)) = n / -(gcdN ns : Int)
    rw [Int.ediv_neg]
  . rw [if_neg hn]
    have u : unit ns = (gcdN ns : Int) := if_neg (by rw [e]; have := Int.mul_nonneg (show (0 : Int) <= gcdN ns by omega) (show 0 <= fst0 (red ns) by omega); omega)
    unfold pl red
    rw [u]
noncomputable def PlainPre (ns : List Int) : Prop := ns.length = 4 /\ (∃ n ∈ ns, n ≠ 0) /\ Sm ns
noncomputable def spMixed : Sp := fun vs H Q _ => ∃ (c k : Int), vs = [.int c, .int k] /\ Builtin.Int.intBits c <= 2 ^ 20 /\ 0 <= k /\ k <= 64 /\ ∀ d, 0 <= d -> d < 2147483587 -> Q (.int d) H
noncomputable def Pu (H : Hp) (p : Addr) : Prop := ∃ a b : Int, H p = some (.lst [.int a, .int b])
noncomputable def spDraw : Sp := fun vs H Q _ => ∃ (p : Addr) (m : Int), vs = [.ref p, .int m] /\ Pu H p /\ 0 < m /\ m < 2 ^ 200 /\ ∀ (d : Int) (H' : Hp), 0 <= d -> d < m -> SB p H H' -> Pu H' p -> Q (.int d) H'
noncomputable def spPurse (K : PySem.W.Frag) : Sp := fun vs H Q _ => ∃ (a : Addr) (ns : List Int), vs = [.ref a] /\ SqL K H a (ns.map V.int) /\ ns.length <= 63 /\ (∀ v ∈ ns, Builtin.Int.intBits v <= 2 ^ 20) /\ ∀ (p : Addr) (H' : Hp), H p = none -> Same H H' -> Pu H' p -> Q (.ref p) H'
theorem cut63 {ns : List Int} (h : ns.length <= 63) : cutV (ns.map V.int) none (some 63) = ns.map V.int := by
  have h2 : HT.sIx (ns.map V.int).length (ns.map V.int).length (some 63) = (ns.map V.int).length := by
    rw [List.length_map]
    unfold HT.sIx
    dsimp only
    rw [if_neg (by decide)]
    omega
  unfold cutV
  rw [h2]
  show List.take ((ns.map V.int).length - 0) (List.drop 0 (ns.map V.int)) = _
  rw [List.drop_zero, Nat.sub_zero, List.take_length]
theorem at_draw {ms : List Int} {d : Int} (h0 : 0 <= d) (h1 : d < (ms.length : Int)) : ∃ m ∈ ms, atI (ms.map V.int) d = some (.int m) := by
  obtain ⟨j, rfl⟩ := Int.eq_ofNat_of_zero_le h0
  have hj : j < ms.length := by omega
  refine ⟨ms[j], List.getElem_mem hj, ?_⟩
  exact atI_nat (by rw [List.getElem?_map]; simp [hj])
theorem Pu.same {H H' : Hp} {p : Addr} (h : Pu H p) (s : Same H H') : Pu H' p := by
  obtain ⟨a, b, e⟩ := h; exact ⟨a, b, s _ _ e⟩
noncomputable def spWhole : Sp := fun vs H Q _ => ∃ (n : Int), vs = [.int n] /\ Q (.bl true) H
noncomputable def spDiv : Sp := fun vs H Q _ => ∃ (a b : Int), vs = [.int a, .int b] /\ Q (.int ((Nat.gcd a.natAbs b.natAbs : Nat) : Int)) H
theorem first_at : ∀ {ns : List Int}, (∃ n ∈ ns, n ≠ 0) -> (ns.filter (fun n => !decide (V.int n = V.int 0)))[0]? = some (fst0 ns)
  | [], h => by obtain ⟨n, hn, _⟩ := h; cases hn
  | x :: r, h => by
    by_cases hx : x = 0
    . subst hx
      rw [List.filter_cons_of_neg (by simp), fst0, if_pos rfl]
      refine first_at ?_
      obtain ⟨n, hn, h0⟩ := h
      rcases List.mem_cons.mp hn with z | z
      . exact absurd z h0
      . exact ⟨n, z, h0⟩
    . rw [List.filter_cons_of_pos (by simp [hx]), fst0, if_neg hx]
      rfl
noncomputable def spLaw (K : PySem.W.Frag) : Sp := fun vs H Q _ => ∃ (a : Addr) (ns : List Int), vs = [.ref a] /\ SqL K H a (ns.map V.int) /\ ns.length <= 63 /\ (∀ v ∈ ns, Builtin.Int.intBits v <= 2 ^ 20) /\ ∀ (H' : Hp), Q (.bl true) H'
theorem sm_bd {ns : List Int} {b : Nat} (h : Bd b ns) (hb : b < 2 ^ 9000) : Sm ns := fun n hn => Nat.lt_of_le_of_lt (h n hn) hb
theorem bd_mono {ns : List Int} {a b : Nat} (h : Bd a ns) (hab : a <= b) : Bd b ns := fun n hn => Nat.le_trans (h n hn) hab
theorem at40 {a b c d : Int} : atI ([a, b, c, d].map V.int) 0 = some (.int a) := rfl
theorem at41 {a b c d : Int} : atI ([a, b, c, d].map V.int) 1 = some (.int b) := rfl
theorem at42 {a b c d : Int} : atI ([a, b, c, d].map V.int) 2 = some (.int c) := rfl
theorem at43 {a b c d : Int} : atI ([a, b, c, d].map V.int) 3 = some (.int d) := rfl
theorem at30 {a b c : Int} : atI ([a, b, c].map V.int) 0 = some (.int a) := rfl
theorem at31 {a b c : Int} : atI ([a, b, c].map V.int) 1 = some (.int b) := rfl
theorem at32 {a b c : Int} : atI ([a, b, c].map V.int) 2 = some (.int c) := rfl
theorem at20 {a b : Int} : atI ([a, b].map V.int) 0 = some (.int a) := rfl
theorem at21 {a b : Int} : atI ([a, b].map V.int) 1 = some (.int b) := rfl
end
end K0
end
section
namespace K0
open PySem L2 Num
theorem red_scale {ns : List Int} {c : Int} (hc : 0 < c) : red (ns.map (c * ·)) = red ns := by
  unfold red
  rw [List.map_map, gcdN_mul]
  refine List.map_congr_left fun n _ => ?_
  show c * n / ((c.natAbs * gcdN ns : Nat) : Int) = n / (gcdN ns : Int)
  rw [Int.natCast_mul, Int.natAbs_of_nonneg (Int.le_of_lt hc), Int.mul_ediv_mul_of_pos _ _ hc]
noncomputable def fr (t b : Int) : List Int := red [t, b]
theorem fr_eq {t b t' b' : Int} (hb : 0 < b) (hb' : 0 < b') (h : t * b' = t' * b) : fr t b = fr t' b' := by
  unfold fr
  rw [<- red_scale (ns := [t, b]) hb', <- red_scale (ns := [t', b']) hb]
  simp only [List.map_cons, List.map_nil]
  rw [Int.mul_comm b' t, h, Int.mul_comm b t', Int.mul_comm b' b]
theorem fr_two (t b : Int) : ∃ t' b', fr t b = [t', b'] := ⟨_, _, rfl⟩
theorem fr_pos {t b t' b' : Int} (hb : 0 < b) (h : fr t b = [t', b']) : 0 < b' /\ b'.natAbs <= b.natAbs /\ t'.natAbs <= t.natAbs /\ t * b' = t' * b /\ Nat.gcd t'.natAbs b'.natAbs = 1 := by
  have hg : 0 < gcdN [t, b] := gcdN_pos ⟨b, by simp, by omega⟩
  have d1 : (gcdN [t, b] : Int) ∣ t := gcdN_dvd (by simp)
  have d2 : (gcdN [t, b] : Int) ∣ b := gcdN_dvd (by simp)
  have e1 : t' = t / (gcdN [t, b] : Int) := by injection h with h1 _; exact h1.symm
  have e2 : b' = b / (gcdN [t, b] : Int) := by injection h with _ h2; injection h2 with h2 _; exact h2.symm
  obtain ⟨u, hu⟩ := d1
  obtain ⟨v, hv⟩ := d2
  have hgi : (0 : Int) < (gcdN [t, b] : Int) := by omega
  have eg : gcdN [t, b] = gcdN [t, b] * Nat.gcd u.natAbs v.natAbs := by
    have : gcdN ([u, v].map ((gcdN [t, b] : Int) * ·)) = gcdN [t, b] * gcdN [u, v] := by rw [gcdN_mul, Int.natAbs_natCast]
    rw [List.map_cons, List.map_cons, List.map_nil, <- hu, <- hv] at this
    have e : gcdN [u, v] = Nat.gcd u.natAbs v.natAbs := by rw [gcdN_cons, gcdN_cons]; simp [gcdN]
    rw [e] at this
    exact this
  generalize gcdN [t, b] = g at *
  have eu : t' = u := by rw [e1, hu, Int.mul_ediv_cancel_left _ (by omega)]
  have ev : b' = v := by rw [e2, hv, Int.mul_ediv_cancel_left _ (by omega)]
  subst eu ev
  have vp : 0 < b' := by
    rcases Int.lt_trichotomy b' 0 with z | z | z
    . have := Int.mul_neg_of_pos_of_neg hgi z; omega
    . subst z; simp at hv; omega
    . exact z
  refine ⟨vp, ?_, ?_, ?_, ?_⟩
  . rw [hv, Int.natAbs_mul, Int.natAbs_natCast]; exact Nat.le_mul_of_pos_left _ hg
  . rw [hu, Int.natAbs_mul, Int.natAbs_natCast]; exact Nat.le_mul_of_pos_left _ hg
  . rw [hu, hv, Int.mul_assoc, Int.mul_left_comm]
  . have : g * 1 = g * Nat.gcd t'.natAbs b'.natAbs := by omega
    exact (Nat.eq_of_mul_eq_mul_left hg this).symm
structure PtW (K : PySem.W.Frag) (H : Hp) (p : Addr) (t1 b1 t2 b2 t3 b3 : Int) : Prop where
  ex : ∃ p1 p2 p3, SqT K H p [.ref p1, .ref p2, .ref p3] /\ SqT K H p1 ([t1, b1].map V.int) /\ SqT K H p2 ([t2, b2].map V.int) /\ SqT K H p3 ([t3, b3].map V.int)
structure Pt (H : Hp) (p : Addr) (f1 f2 f3 : List Int) : Prop where
  ex : ∃ p1 p2 p3, H p = some (.tup [.ref p1, .ref p2, .ref p3]) /\ H p1 = some (.tup (f1.map V.int)) /\ H p2 = some (.tup (f2.map V.int)) /\ H p3 = some (.tup (f3.map V.int))
noncomputable def Bt (n : Int) (k : Nat) : Prop := n.natAbs <= 2 ^ k
theorem Bt.mul {a b : Int} {x y : Nat} (ha : Bt a x) (hb : Bt b y) : Bt (a * b) (x + y) := by
  unfold Bt at *
  rw [Int.natAbs_mul, Nat.pow_add]; exact Nat.mul_le_mul ha hb
theorem Bt.add {a b : Int} {x : Nat} (ha : Bt a x) (hb : Bt b x) : Bt (a + b) (x + 1) := by
  unfold Bt at *
  rw [Nat.pow_succ, Nat.mul_two]
  exact Nat.le_trans (Int.natAbs_add_le a b) (Nat.add_le_add ha hb)
theorem Bt.sub {a b : Int} {x : Nat} (ha : Bt a x) (hb : Bt b x) : Bt (a - b) (x + 1) := by
  unfold Bt at *
  rw [Nat.pow_succ, Nat.mul_two]
  exact Nat.le_trans (Int.natAbs_sub_le a b) (Nat.add_le_add ha hb)
theorem Bt.up {a : Int} {x y : Nat} (h : Bt a x) (hxy : x <= y) : Bt a y := Nat.le_trans h (Nat.pow_le_pow_right (by decide) hxy)
theorem Bt.lt {a : Int} {x : Nat} (h : Bt a x) (hx : x < 9000) : a.natAbs < 2 ^ 9000 := Nat.lt_of_le_of_lt h (Nat.pow_lt_pow_right (by decide) hx)
theorem Bt.mulOk {a b : Int} {x y : Nat} (ha : Bt a x) (hb : Bt b y) (hx : x < 9000 := by decide) (hy : y < 9000 := by decide) : IntMulOk a b := mulOk_of (pow_lift (ha.lt hx)) (pow_lift (hb.lt hy))
theorem Bt.log {a : Int} {x : Nat} (h : Bt a x) (h0 : a ≠ 0) (hx : x < 9000 := by decide) : a.natAbs.log2 < 9000 := (Nat.log2_lt (by omega)).mpr (h.lt hx)
theorem sm2 {a b : Int} {x : Nat} (ha : Bt a x) (hb : Bt b x) (hx : x < 9000 := by decide) : Sm [a, b] := fun n hn => by
  simp only [List.mem_cons, List.mem_nil_iff, or_false] at hn
  rcases hn with rfl | rfl
  . exact ha.lt hx
  . exact hb.lt hx
theorem sm3 {a b c : Int} {x : Nat} (ha : Bt a x) (hb : Bt b x) (hc : Bt c x) (hx : x < 9000 := by decide) : Sm [a, b, c] := fun n hn => by
  simp only [List.mem_cons, List.mem_nil_iff, or_false] at hn
  rcases hn with rfl | rfl | rfl
  . exact ha.lt hx
  . exact hb.lt hx
  . exact hc.lt hx
theorem bt_bd {ns : List Int} {k : Nat} (h : Bd (2 ^ k) ns) {n : Int} (hn : n ∈ ns) : Bt n k := h n hn
noncomputable def spCM (K : PySem.W.Frag) : Sp := fun vs H Q _ => ∃ (a : Addr) (bs : List Int) (C : Int), vs = [.ref a] /\ SqL K H a (bs.map V.int) /\ (∀ b ∈ bs, 0 < b /\ b ∣ C) /\ 0 < C /\ Bt C 3000 /\
  ∀ (L : Int) (H' : Hp), Same H H' -> 0 < L -> (∀ b ∈ bs, b ∣ L) -> L ∣ C -> Q (.int L) H'
theorem bt_dvd {a C : Int} {k : Nat} (h : a ∣ C) (hC : 0 < C) (b : Bt C k) : Bt a k := by
  obtain ⟨u, hu⟩ := h
  refine Nat.le_trans ?_ b
  have : u ≠ 0 := fun z => by subst z; simp at hu; omega
  rw [hu, Int.natAbs_mul]; exact Nat.le_mul_of_pos_right _ (by omega)
structure Frs (t1 b1 t2 b2 t3 b3 : Int) : Prop where
  p1 : 0 < b1
  p2 : 0 < b2
  p3 : 0 < b3
  u1 : Bt t1 1000
  u2 : Bt t2 1000
  u3 : Bt t3 1000
  v1 : Bt b1 1000
  v2 : Bt b2 1000
  v3 : Bt b3 1000
noncomputable def rw1 (a b c d : Int) : List Int := [a * a + b * b - c * c - d * d, 2 * (b * c - a * d), 2 * (b * d + a * c)]
noncomputable def rw2 (a b c d : Int) : List Int := [2 * (b * c + a * d), a * a - b * b + c * c - d * d, 2 * (c * d - a * b)]
noncomputable def rw3 (a b c d : Int) : List Int := [2 * (b * d - a * c), 2 * (c * d + a * b), a * a - b * b - c * c + d * d]
noncomputable def spWT (K : PySem.W.Frag) : Sp := fun vs H Q _ => ∃ (x : Addr) (a b c d : Int), vs = [.ref x] /\ SqT K H x ([a, b, c, d].map V.int) /\ Bd (2 ^ 1000) [a, b, c, d] /\
  ∀ (r : Addr) (H' : Hp), Same H H' -> Pt H' r (rw1 a b c d) (rw2 a b c d) (rw3 a b c d) -> Q (.ref r) H'
noncomputable def spLT (K : PySem.W.Frag) : Sp := fun vs H Q _ => ∃ (x p q : Addr) (a b c d n1 n2 n3 m : Int), vs = [.ref x, .ref p] /\ SqT K H x ([a, b, c, d].map V.int) /\ Bd (2 ^ 1000) [a, b, c, d] /\ SqT K H p [.ref q, .int m] /\ SqT K H q ([n1, n2, n3].map V.int) /\ Bt n1 6000 /\ Bt n2 6000 /\ Bt n3 6000 /\ Bt m 3000 /\
  ∀ (r q' : Addr) (H' : Hp), Same H H' -> H' r = some (.tup [.ref q', .int (m * sop [a, b, c, d] [a, b, c, d])]) -> H' q' = some (.tup ([sop (rw1 a b c d) [n1, n2, n3], sop (rw2 a b c d) [n1, n2, n3], sop (rw3 a b c d) [n1, n2, n3]].map V.int)) -> Q (.ref r) H'
noncomputable def tp (rw : List Int) (t1 b1 t2 b2 t3 b3 : Int) : Int := sop rw [t1 * (b2 * b3), t2 * (b1 * b3), t3 * (b1 * b2)]
noncomputable def spTurned (K : PySem.W.Frag) : Sp := fun vs H Q _ => ∃ (x p : Addr) (a b c d t1 b1 t2 b2 t3 b3 : Int), vs = [.ref x, .ref p] /\ SqT K H x ([a, b, c, d].map V.int) /\ (∃ n ∈ [a, b, c, d], n ≠ 0) /\ Bd (2 ^ 1000) [a, b, c, d] /\ PtW K H p t1 b1 t2 b2 t3 b3 /\ Frs t1 b1 t2 b2 t3 b3 /\
  ∀ (r : Addr) (H' : Hp), Same H H' -> Pt H' r (fr (tp (rw1 a b c d) t1 b1 t2 b2 t3 b3) (b1 * b2 * b3 * nrm [a, b, c, d])) (fr (tp (rw2 a b c d) t1 b1 t2 b2 t3 b3) (b1 * b2 * b3 * nrm [a, b, c, d])) (fr (tp (rw3 a b c d) t1 b1 t2 b2 t3 b3) (b1 * b2 * b3 * nrm [a, b, c, d])) -> Q (.ref r) H'
theorem gcdN2' (t b : Int) : gcdN [t, b] = Nat.gcd t.natAbs b.natAbs := by rw [gcdN_cons, gcdN_cons]; simp [gcdN]
theorem cm_step {m n C : Int} (hm : 0 < m) (hn : 0 < n) (hC : 0 < C) (dm : m ∣ C) (dn : n ∣ C) (bC : Bt C 3000) : ((gcdN [m, n] : Nat) : Int) ≠ 0 /\ ((gcdN [m, n] : Nat) : Int).natAbs.log2 < 9000 /\ Bt (m.fdiv (gcdN [m, n] : Nat)) 3000 /\
    0 < m.fdiv (gcdN [m, n] : Nat) * n /\ m ∣ m.fdiv (gcdN [m, n] : Nat) * n /\ n ∣ m.fdiv (gcdN [m, n] : Nat) * n /\ m.fdiv (gcdN [m, n] : Nat) * n ∣ C := by
  have hg : 0 < gcdN [m, n] := gcdN_pos ⟨n, by simp, by omega⟩
  have hl : gcdN [m, n] <= n.natAbs := gcdN_le (by simp) (by omega)
  have d1 : (gcdN [m, n] : Int) ∣ m := gcdN_dvd (by simp)
  have d2 : (gcdN [m, n] : Int) ∣ n := gcdN_dvd (by simp)
  have bn := bt_dvd dn hC bC
  have bm := bt_dvd dm hC bC
  have bg : Bt ((gcdN [m, n] : Nat) : Int) 3000 := by unfold Bt; rw [Int.natAbs_natCast]; exact Nat.le_trans hl bn
  have lc : m.fdiv (gcdN [m, n] : Nat) * n ∣ C := by
    rw [Int.fdiv_eq_ediv_of_dvd d1]
    obtain ⟨M, rfl⟩ := Int.eq_ofNat_of_zero_le (Int.le_of_lt hm)
    obtain ⟨N, rfl⟩ := Int.eq_ofNat_of_zero_le (Int.le_of_lt hn)
    obtain ⟨c, rfl⟩ := Int.eq_ofNat_of_zero_le (Int.le_of_lt hC)
    rw [gcdN2', Int.natAbs_natCast, Int.natAbs_natCast]
    have e : ((M : Int) / (Nat.gcd M N : Nat) * (N : Int)) = ((Nat.lcm M N : Nat) : Int) := by
      rw [<- Int.natCast_ediv, <- Int.natCast_mul]
      congr 1
      unfold Nat.lcm
      rw [Nat.div_mul_right_comm (Nat.gcd_dvd_left M N)]
    rw [e]
    exact Int.natCast_dvd_natCast.mpr (Nat.lcm_dvd (Int.natCast_dvd_natCast.mp dm) (Int.natCast_dvd_natCast.mp dn))
  rw [Int.fdiv_eq_ediv_of_dvd d1] at lc ⊢
  obtain ⟨u, hu⟩ := d1
  obtain ⟨v, hv⟩ := d2
  generalize gcdN [m, n] = g at *
  have eu : m / (g : Int) = u := by rw [hu, Int.mul_ediv_cancel_left _ (by omega)]
  rw [eu] at lc ⊢
  have up : 0 < u := by
    rcases Int.lt_trichotomy u 0 with z | z | z
    . have := Int.mul_neg_of_pos_of_neg (show (0 : Int) < g by omega) z; omega
    . subst z; simp at hu; omega
    . exact z
  refine ⟨by omega, bg.log (by omega), ?_, Int.mul_pos up hn, ⟨v, ?_⟩, ⟨u, Int.mul_comm _ _⟩, lc⟩
  . refine Nat.le_trans ?_ bm
    rw [hu, Int.natAbs_mul, Int.natAbs_natCast]; exact Nat.le_mul_of_pos_left _ hg
  . rw [hu, hv]; grind
theorem lev_part {L b : Int} (hb : 0 < b) (hL : 0 < L) (hd : b ∣ L) (bL : Bt L 3000) : L.fdiv b * b = L /\ Bt (L.fdiv b) 3000 := by
  rw [Int.fdiv_eq_ediv_of_dvd hd]
  obtain ⟨u, hu⟩ := hd
  have e : L / b = u := by rw [hu, Int.mul_ediv_cancel_left _ (by omega)]
  rw [e]
  refine ⟨by rw [hu, Int.mul_comm], Nat.le_trans ?_ bL⟩
  rw [hu, Int.natAbs_mul]; exact Nat.le_mul_of_pos_left _ (by omega)
theorem atA {x y : V} : atI [x, y] 0 = some x := rfl
theorem atB {x y : V} : atI [x, y] 1 = some y := rfl
theorem sop3 (a b c d e f : Int) : sop [a, b, c] [d, e, f] = a * d + b * e + c * f := by
  simp only [sop, List.zipWith_cons_cons, List.zipWith_nil_right, List.sum_cons, List.sum_nil]; omega
theorem sop4 (a b c d : Int) : sop [a, b, c, d] [a, b, c, d] = nrm [a, b, c, d] := by
  simp only [sop, nrm, List.zipWith_cons_cons, List.zipWith_nil_right, List.sum_cons, List.sum_nil]; omega
theorem two1 : Bt 2 1 := by unfold Bt; decide
theorem sq3 {a b c d : Int} (ha : Bt a 2000) (hb : Bt b 2000) (hc : Bt c 2000) (hd : Bt d 2000) : Bt (a + b - c - d) 2003 := ((ha.add hb).sub (hc.up (by decide))).sub (hd.up (by decide))
theorem sq3' {a b c d : Int} (ha : Bt a 2000) (hb : Bt b 2000) (hc : Bt c 2000) (hd : Bt d 2000) : Bt (a - b + c - d) 2003 := ((ha.sub hb).add (hc.up (by decide))).sub (hd.up (by decide))
theorem sq3'' {a b c d : Int} (ha : Bt a 2000) (hb : Bt b 2000) (hc : Bt c 2000) (hd : Bt d 2000) : Bt (a - b - c + d) 2003 := ((ha.sub hb).sub (hc.up (by decide))).add (hd.up (by decide))
theorem tw {a b : Int} (ha : Bt a 2000) (hb : Bt b 2000) : Bt (2 * (a - b)) 2003 := (two1.mul (ha.sub hb)).up (by decide)
theorem tw' {a b : Int} (ha : Bt a 2000) (hb : Bt b 2000) : Bt (2 * (a + b)) 2003 := (two1.mul (ha.add hb)).up (by decide)
theorem rows_bt {a b c d : Int} (h : Bd (2 ^ 1000) [a, b, c, d]) : (∀ n ∈ rw1 a b c d, Bt n 2003) /\ (∀ n ∈ rw2 a b c d, Bt n 2003) /\ (∀ n ∈ rw3 a b c d, Bt n 2003) := by
  have ha : Bt a 1000 := h a (by simp)
  have hb : Bt b 1000 := h b (by simp)
  have hc : Bt c 1000 := h c (by simp)
  have hd : Bt d 1000 := h d (by simp)
  have m : ∀ {x y : Int}, Bt x 1000 -> Bt y 1000 -> Bt (x * y) 2000 := fun hx hy => hx.mul hy
  refine ⟨fun n hn => ?_, fun n hn => ?_, fun n hn => ?_⟩
  . simp only [rw1, List.mem_cons, List.mem_nil_iff, or_false] at hn
    rcases hn with rfl | rfl | rfl
    . exact sq3 (m ha ha) (m hb hb) (m hc hc) (m hd hd)
    . exact tw (m hb hc) (m ha hd)
    . exact tw' (m hb hd) (m ha hc)
  . simp only [rw2, List.mem_cons, List.mem_nil_iff, or_false] at hn
    rcases hn with rfl | rfl | rfl
    . exact tw' (m hb hc) (m ha hd)
    . exact sq3' (m ha ha) (m hb hb) (m hc hc) (m hd hd)
    . exact tw (m hc hd) (m ha hb)
  . simp only [rw3, List.mem_cons, List.mem_nil_iff, or_false] at hn
    rcases hn with rfl | rfl | rfl
    . exact tw (m hb hd) (m ha hc)
    . exact tw' (m hc hd) (m ha hb)
    . exact sq3'' (m ha ha) (m hb hb) (m hc hc) (m hd hd)
theorem nrm_bt {a b c d : Int} (h : Bd (2 ^ 1000) [a, b, c, d]) : Bt (nrm [a, b, c, d]) 2003 := by
  have ha : Bt a 1000 := h a (by simp)
  have hb : Bt b 1000 := h b (by simp)
  have hc : Bt c 1000 := h c (by simp)
  have hd : Bt d 1000 := h d (by simp)
  exact (((ha.mul ha).add (hb.mul hb)).add ((hc.mul hc).up (by decide))).add ((hd.mul hd).up (by decide))
theorem bts {ns : List Int} {k : Nat} (h : ∀ n ∈ ns, Bt n k) (hk : k < 9000 := by decide) : Sm ns := fun n hn => (h n hn).lt hk
theorem gcdN2 (t b : Int) : gcdN [t, b] = Nat.gcd t.natAbs b.natAbs := by rw [gcdN_cons, gcdN_cons]; simp [gcdN]
noncomputable def spMade (K : PySem.W.Frag) : Sp := fun vs H Q _ => ∃ (t b : Int), vs = [.int t, .int b] /\ 0 < b /\ Bt b 8000 /\ ∀ (r : Addr) (H' : Hp), Same H H' -> H' r = some (.tup ((fr t b).map V.int)) -> Q (.ref r) H'
noncomputable def spRows (K : PySem.W.Frag) : Sp := fun vs H Q _ => ∃ (x : Addr) (a b c d : Int), vs = [.ref x] /\ SqT K H x ([a, b, c, d].map V.int) /\ Bd (2 ^ 1000) [a, b, c, d] /\
  ∀ (r p1 p2 p3 : Addr) (H' : Hp), Same H H' -> H' r = some (.lst [.ref p1, .ref p2, .ref p3]) -> H' p1 = some (.tup ((rw1 a b c d).map V.int)) -> H' p2 = some (.tup ((rw2 a b c d).map V.int)) -> H' p3 = some (.tup ((rw3 a b c d).map V.int)) -> Q (.ref r) H'
noncomputable def ptD (f1 f2 f3 : List Int) : PySem.W.Dat := .tuple [.tuple (f1.map .int), .tuple (f2.map .int), .tuple (f3.map .int)]
theorem kqd_pt {f1 f2 f3 : List Int} : PySem.W.kqdOk 9 (ptD f1 f2 f3) = true := by
  show List.all [_, _, _] (PySem.W.kqdOk 8) = true
  have e : ∀ f : List Int, PySem.W.kqdOk 8 (.tuple (f.map .int)) = true := fun f => kqd_ints f 7
  simp only [List.all_cons, List.all_nil, Bool.and_true, e]
theorem tp_law {r1 r2 r3 t1 b1 t2 b2 t3 b3 : Int} : ((0 * b1 + r1 * t1 * 1) * b2 + r2 * t2 * (1 * b1)) * b3 + r3 * t3 * (1 * b1 * b2) = tp [r1, r2, r3] t1 b1 t2 b2 t3 b3 := by
  unfold tp; rw [sop3]; grind
theorem same_sb {H H1 H2 : Hp} {D : Addr} (a : Same H H1) (b : SB D H1 H2) (n : H D = none) : Same H H2 := fun c o h => b c o (ne_of_none h n) (a c o h)
theorem sum_sq (a b c d : Int) : ([a, b, c, d].map fun n => n * n).sum = nrm [a, b, c, d] := by
  simp only [nrm, List.map_cons, List.map_nil, List.sum_cons, List.sum_nil]; omega
end K0
end
section
namespace K0
open PySem L2 Num
noncomputable def qv (t b : Int) : Rat := (t : Rat) / (b : Rat)
theorem cast_ne {b : Int} (h : b ≠ 0) : (b : Rat) ≠ 0 := fun z => h (by exact_mod_cast z)
theorem fr_qv {t b t' b' : Int} (hb : 0 < b) (hb' : 0 < b') (h : qv t b = qv t' b') : fr t b = fr t' b' := by
  refine fr_eq hb hb' ?_
  have h1 := cast_ne (show b ≠ 0 by omega)
  have h2 := cast_ne (show b' ≠ 0 by omega)
  unfold qv at h
  have : (t : Rat) * b' = t' * b := by grind
  exact_mod_cast this
theorem qv_of {t b t' b' : Int} (hb : b ≠ 0) (hb' : b' ≠ 0) (h : t * b' = t' * b) : qv t b = qv t' b' := by
  have h1 := cast_ne hb
  have h2 := cast_ne hb'
  unfold qv
  have : (t : Rat) * b' = t' * b := by exact_mod_cast h
  grind
theorem qv_tp {r1 r2 r3 t1 b1 t2 b2 t3 b3 n : Int} (p1 : b1 ≠ 0) (p2 : b2 ≠ 0) (p3 : b3 ≠ 0) (pn : n ≠ 0) :
    qv (tp [r1, r2, r3] t1 b1 t2 b2 t3 b3) (b1 * b2 * b3 * n) = (r1 * qv t1 b1 + r2 * qv t2 b2 + r3 * qv t3 b3) / n := by
  have h1 := cast_ne p1
  have h2 := cast_ne p2
  have h3 := cast_ne p3
  have h4 := cast_ne pn
  unfold qv tp
  rw [sop3]
  push_cast
  grind
noncomputable def R1 (a b c d x y z : Rat) : Rat := (a * a + b * b - c * c - d * d) * x + 2 * (b * c - a * d) * y + 2 * (b * d + a * c) * z
noncomputable def R2 (a b c d x y z : Rat) : Rat := 2 * (b * c + a * d) * x + (a * a - b * b + c * c - d * d) * y + 2 * (c * d - a * b) * z
noncomputable def R3 (a b c d x y z : Rat) : Rat := 2 * (b * d - a * c) * x + 2 * (c * d + a * b) * y + (a * a - b * b - c * c + d * d) * z
noncomputable def N4 (a b c d : Rat) : Rat := a * a + b * b + c * c + d * d
structure Lo (k : Nat) (t b : Int) (x : Rat) : Prop where
  pos : 0 < b
  low : Nat.gcd t.natAbs b.natAbs = 1
  bt : Bt t k
  bb : Bt b k
  val : qv t b = x
theorem Lo.fr {k : Nat} {t b : Int} {x : Rat} (h : Lo k t b x) : fr t b = [t, b] := by
  unfold K0.fr red
  rw [gcdN2, h.low]
  simp
theorem Lo.eq {k k' : Nat} {t b t' b' : Int} {x : Rat} (h : Lo k t b x) (h' : Lo k' t' b' x) : [t, b] = [t', b'] := by
  rw [<- h.fr, <- h'.fr]
  exact fr_qv h.pos h'.pos (by rw [h.val, h'.val])
theorem Lo.of {k : Nat} {T B t b : Int} {x : Rat} (hB : 0 < B) (hT : Bt T k) (hb : Bt B k) (h : K0.fr T B = [t, b]) (hv : qv T B = x) : Lo k t b x := by
  obtain ⟨h1, h2, h3, h4, h5⟩ := fr_pos hB h
  refine ⟨h1, h5, Nat.le_trans h3 hT, Nat.le_trans h2 hb, ?_⟩
  rw [<- hv]
  exact (qv_of (by omega) (by omega) h4).symm
theorem rows_btG {m : Nat} {a b c d : Int} (h : Bd (2 ^ m) [a, b, c, d]) : (∀ n ∈ rw1 a b c d, Bt n (2 * m + 3)) /\ (∀ n ∈ rw2 a b c d, Bt n (2 * m + 3)) /\ (∀ n ∈ rw3 a b c d, Bt n (2 * m + 3)) := by
  have ha : Bt a m := h a (by simp)
  have hb : Bt b m := h b (by simp)
  have hc : Bt c m := h c (by simp)
  have hd : Bt d m := h d (by simp)
  have q : ∀ {x y : Int}, Bt x m -> Bt y m -> Bt (x * y) (2 * m) := fun hx hy => (hx.mul hy).up (by omega)
  have s1 : ∀ {w x y z : Int}, Bt w (2 * m) -> Bt x (2 * m) -> Bt y (2 * m) -> Bt z (2 * m) -> Bt (w + x - y - z) (2 * m + 3) := fun hw hx hy hz => ((hw.add hx).sub (hy.up (by omega))).sub (hz.up (by omega))
  have s2 : ∀ {w x y z : Int}, Bt w (2 * m) -> Bt x (2 * m) -> Bt y (2 * m) -> Bt z (2 * m) -> Bt (w - x + y - z) (2 * m + 3) := fun hw hx hy hz => ((hw.sub hx).add (hy.up (by omega))).sub (hz.up (by omega))
  have s3 : ∀ {w x y z : Int}, Bt w (2 * m) -> Bt x (2 * m) -> Bt y (2 * m) -> Bt z (2 * m) -> Bt (w - x - y + z) (2 * m + 3) := fun hw hx hy hz => ((hw.sub hx).sub (hy.up (by omega))).add (hz.up (by omega))
  have d1 : ∀ {x y : Int}, Bt x (2 * m) -> Bt y (2 * m) -> Bt (2 * (x - y)) (2 * m + 3) := fun hx hy => (two1.mul (hx.sub hy)).up (by omega)
  have d2 : ∀ {x y : Int}, Bt x (2 * m) -> Bt y (2 * m) -> Bt (2 * (x + y)) (2 * m + 3) := fun hx hy => (two1.mul (hx.add hy)).up (by omega)
  refine ⟨fun n hn => ?_, fun n hn => ?_, fun n hn => ?_⟩
  . simp only [rw1, List.mem_cons, List.mem_nil_iff, or_false] at hn
    rcases hn with rfl | rfl | rfl
    . exact s1 (q ha ha) (q hb hb) (q hc hc) (q hd hd)
    . exact d1 (q hb hc) (q ha hd)
    . exact d2 (q hb hd) (q ha hc)
  . simp only [rw2, List.mem_cons, List.mem_nil_iff, or_false] at hn
    rcases hn with rfl | rfl | rfl
    . exact d2 (q hb hc) (q ha hd)
    . exact s2 (q ha ha) (q hb hb) (q hc hc) (q hd hd)
    . exact d1 (q hc hd) (q ha hb)
  . simp only [rw3, List.mem_cons, List.mem_nil_iff, or_false] at hn
    rcases hn with rfl | rfl | rfl
    . exact d1 (q hb hd) (q ha hc)
    . exact d2 (q hc hd) (q ha hb)
    . exact s3 (q ha ha) (q hb hb) (q hc hc) (q hd hd)
theorem nrm_btG {m : Nat} {a b c d : Int} (h : Bd (2 ^ m) [a, b, c, d]) : Bt (nrm [a, b, c, d]) (2 * m + 3) := by
  have ha : Bt a m := h a (by simp)
  have hb : Bt b m := h b (by simp)
  have hc : Bt c m := h c (by simp)
  have hd : Bt d m := h d (by simp)
  have q : ∀ {x y : Int}, Bt x m -> Bt y m -> Bt (x * y) (2 * m) := fun hx hy => (hx.mul hy).up (by omega)
  exact (((q ha ha).add (q hb hb)).add ((q hc hc).up (by omega))).add ((q hd hd).up (by omega))
theorem lofrs {k : Nat} {t1 b1 t2 b2 t3 b3 : Int} {u v w : Rat} (l1 : Lo k t1 b1 u) (l2 : Lo k t2 b2 v) (l3 : Lo k t3 b3 w) (hk : k <= 1000 := by decide) : Frs t1 b1 t2 b2 t3 b3 :=
  ⟨l1.pos, l2.pos, l3.pos, l1.bt.up hk, l2.bt.up hk, l3.bt.up hk, l1.bb.up hk, l2.bb.up hk, l3.bb.up hk⟩
theorem bdm {m : Nat} {ns : List Int} (h : Bd (2 ^ m) ns) (hm : m <= 1000 := by decide) : Bd (2 ^ 1000) ns := bd_mono h (Nat.pow_le_pow_right (by decide) hm)
theorem N4_scale (u p q r s : Rat) : N4 (u * p) (u * q) (u * r) (u * s) = u * u * N4 p q r s := by unfold N4; grind
theorem N4_ne {ns : List Int} {a b c d : Int} (e : ns = [a, b, c, d]) (hz : ∃ n ∈ ns, n ≠ 0) : N4 a b c d ≠ 0 := by
  subst e
  have np := nrm_pos (ns := [a, b, c, d]) rfl hz
  have cN : ((nrm [a, b, c, d] : Int) : Rat) = N4 a b c d := by unfold nrm N4; push_cast; rfl
  rw [<- cN]
  exact cast_ne (by omega)
theorem div_help {x y n m u X : Rat} (hu : u ≠ 0) (hn : n ≠ 0) (hm : m ≠ 0) (h1 : u * u * x = X) (h2 : u * u * n = m) : x / n = X / m := by
  subst h1 h2
  grind
theorem R1_scale (u p q r s x y z : Rat) : R1 (u * p) (u * q) (u * r) (u * s) x y z = u * u * R1 p q r s x y z := by unfold R1; grind
theorem R2_scale (u p q r s x y z : Rat) : R2 (u * p) (u * q) (u * r) (u * s) x y z = u * u * R2 p q r s x y z := by unfold R2; grind
theorem R3_scale (u p q r s x y z : Rat) : R3 (u * p) (u * q) (u * r) (u * s) x y z = u * u * R3 p q r s x y z := by unfold R3; grind
theorem crossed {x n y m : Rat} (hn : n ≠ 0) (hm : m ≠ 0) (h : x / n = y / m) : x * m = y * n := by grind
theorem R1_pl {a b c d p q r s : Int} {x y z : Rat} (hp : pl [a, b, c, d] = [p, q, r, s]) (z1 : ∃ n ∈ [a, b, c, d], n ≠ 0) : R1 a b c d x y z / N4 a b c d = R1 p q r s x y z / N4 p q r s := by
  have hu := cast_ne (unit_ne z1)
  have n1 := N4_ne rfl z1
  have n3 := N4_ne hp (nz_pl z1)
  have em := pl_mul (ns := [a, b, c, d])
  rw [hp] at em
  generalize unit [a, b, c, d] = u at *
  simp only [List.map_cons, List.map_nil, List.cons.injEq, and_true] at em
  obtain ⟨m1, m2, m3, m4⟩ := em
  have k1 : (u : Rat) * p = a := by exact_mod_cast m1
  have k2 : (u : Rat) * q = b := by exact_mod_cast m2
  have k3 : (u : Rat) * r = c := by exact_mod_cast m3
  have k4 : (u : Rat) * s = d := by exact_mod_cast m4
  have A := R1_scale u p q r s x y z
  have B := N4_scale u p q r s
  rw [k1, k2, k3, k4] at A B
  rw [A]
  exact (div_help (X := u * u * R1 p q r s x y z) hu n3 n1 rfl B.symm (y := 0)).symm
theorem R2_pl {a b c d p q r s : Int} {x y z : Rat} (hp : pl [a, b, c, d] = [p, q, r, s]) (z1 : ∃ n ∈ [a, b, c, d], n ≠ 0) : R2 a b c d x y z / N4 a b c d = R2 p q r s x y z / N4 p q r s := by
  have hu := cast_ne (unit_ne z1)
  have n1 := N4_ne rfl z1
  have n3 := N4_ne hp (nz_pl z1)
  have em := pl_mul (ns := [a, b, c, d])
  rw [hp] at em
  generalize unit [a, b, c, d] = u at *
  simp only [List.map_cons, List.map_nil, List.cons.injEq, and_true] at em
  obtain ⟨m1, m2, m3, m4⟩ := em
  have k1 : (u : Rat) * p = a := by exact_mod_cast m1
  have k2 : (u : Rat) * q = b := by exact_mod_cast m2
  have k3 : (u : Rat) * r = c := by exact_mod_cast m3
  have k4 : (u : Rat) * s = d := by exact_mod_cast m4
  have A := R2_scale u p q r s x y z
  have B := N4_scale u p q r s
  rw [k1, k2, k3, k4] at A B
  rw [A]
  exact (div_help (X := u * u * R2 p q r s x y z) hu n3 n1 rfl B.symm (y := 0)).symm
theorem R3_pl {a b c d p q r s : Int} {x y z : Rat} (hp : pl [a, b, c, d] = [p, q, r, s]) (z1 : ∃ n ∈ [a, b, c, d], n ≠ 0) : R3 a b c d x y z / N4 a b c d = R3 p q r s x y z / N4 p q r s := by
  have hu := cast_ne (unit_ne z1)
  have n1 := N4_ne rfl z1
  have n3 := N4_ne hp (nz_pl z1)
  have em := pl_mul (ns := [a, b, c, d])
  rw [hp] at em
  generalize unit [a, b, c, d] = u at *
  simp only [List.map_cons, List.map_nil, List.cons.injEq, and_true] at em
  obtain ⟨m1, m2, m3, m4⟩ := em
  have k1 : (u : Rat) * p = a := by exact_mod_cast m1
  have k2 : (u : Rat) * q = b := by exact_mod_cast m2
  have k3 : (u : Rat) * r = c := by exact_mod_cast m3
  have k4 : (u : Rat) * s = d := by exact_mod_cast m4
  have A := R3_scale u p q r s x y z
  have B := N4_scale u p q r s
  rw [k1, k2, k3, k4] at A B
  rw [A]
  exact (div_help (X := u * u * R3 p q r s x y z) hu n3 n1 rfl B.symm (y := 0)).symm
noncomputable def Alike (a b c d e f g h x y z : Rat) : Prop := R1 a b c d x y z / N4 a b c d = R1 e f g h x y z / N4 e f g h /\ R2 a b c d x y z / N4 a b c d = R2 e f g h x y z / N4 e f g h /\ R3 a b c d x y z / N4 a b c d = R3 e f g h x y z / N4 e f g h
theorem prods {a b c d e f g h : Rat} (n : N4 a b c d ≠ 0) (m : N4 e f g h ≠ 0) (h1 : Alike a b c d e f g h 1 0 0) (h2 : Alike a b c d e f g h 2 1 0) (h3 : Alike a b c d e f g h (-1) 3 1) :
    (a * a * N4 e f g h = e * e * N4 a b c d /\ a * b * N4 e f g h = e * f * N4 a b c d /\ a * c * N4 e f g h = e * g * N4 a b c d /\ a * d * N4 e f g h = e * h * N4 a b c d) /\
    (b * b * N4 e f g h = f * f * N4 a b c d /\ b * c * N4 e f g h = f * g * N4 a b c d /\ b * d * N4 e f g h = f * h * N4 a b c d) /\ (c * c * N4 e f g h = g * g * N4 a b c d /\ c * d * N4 e f g h = g * h * N4 a b c d) /\ d * d * N4 e f g h = h * h * N4 a b c d := by
  obtain ⟨p1, p2, p3⟩ := h1
  obtain ⟨q1, q2, q3⟩ := h2
  obtain ⟨r1, r2, r3⟩ := h3
  replace p1 := crossed n m p1
  replace p2 := crossed n m p2
  replace p3 := crossed n m p3
  replace q1 := crossed n m q1
  replace q2 := crossed n m q2
  replace q3 := crossed n m q3
  replace r1 := crossed n m r1
  replace r2 := crossed n m r2
  replace r3 := crossed n m r3
  have eN : N4 a b c d = a * a + b * b + c * c + d * d := rfl
  have eM : N4 e f g h = e * e + f * f + g * g + h * h := rfl
  generalize N4 a b c d = N at *
  generalize N4 e f g h = M at *
  unfold R1 at p1 q1 r1
  unfold R2 at p2 q2 r2
  unfold R3 at p3 q3 r3
  refine ⟨⟨?_, ?_, ?_, ?_⟩, ⟨?_, ?_, ?_⟩, ⟨?_, ?_⟩, ?_⟩ <;> grind
theorem pl_prop {ns ms : List Int} {k l : Int} (hk : k ≠ 0) (hl : l ≠ 0) (h : ns.map (k * ·) = ms.map (l * ·)) (z1 : ∃ n ∈ ns, n ≠ 0) (z2 : ∃ n ∈ ms, n ≠ 0) : pl ns = pl ms := by
  rw [<- pl_scale hk z1, h, pl_scale hl z2]
theorem alike_pl {a b c d e f g h : Int} (z1 : ∃ n ∈ [a, b, c, d], n ≠ 0) (z2 : ∃ n ∈ [e, f, g, h], n ≠ 0) (h1 : Alike a b c d e f g h 1 0 0) (h2 : Alike a b c d e f g h 2 1 0) (h3 : Alike a b c d e f g h (-1) 3 1) : pl [a, b, c, d] = pl [e, f, g, h] := by
  have n := N4_ne rfl z1
  have m := N4_ne rfl z2
  obtain ⟨⟨aa, ab, ac, ad⟩, ⟨bb, bc, bd⟩, ⟨cc, cd⟩, dd⟩ := prods n m h1 h2 h3
  have cN : ((nrm [a, b, c, d] : Int) : Rat) = N4 a b c d := by unfold nrm N4; push_cast; rfl
  have cM : ((nrm [e, f, g, h] : Int) : Rat) = N4 e f g h := by unfold nrm N4; push_cast; rfl
  have pn := nrm_pos (ns := [a, b, c, d]) rfl z1
  have pm := nrm_pos (ns := [e, f, g, h]) rfl z2
  rw [<- cN, <- cM] at aa ab ac ad bb bc bd cc cd dd
  generalize nrm [a, b, c, d] = N at *
  generalize nrm [e, f, g, h] = M at *
  replace aa : a * a * M = e * e * N := by exact_mod_cast aa
  replace ab : a * b * M = e * f * N := by exact_mod_cast ab
  replace ac : a * c * M = e * g * N := by exact_mod_cast ac
  replace ad : a * d * M = e * h * N := by exact_mod_cast ad
  replace bb : b * b * M = f * f * N := by exact_mod_cast bb
  replace bc : b * c * M = f * g * N := by exact_mod_cast bc
  replace bd : b * d * M = f * h * N := by exact_mod_cast bd
  replace cc : c * c * M = g * g * N := by exact_mod_cast cc
  replace cd : c * d * M = g * h * N := by exact_mod_cast cd
  replace dd : d * d * M = h * h * N := by exact_mod_cast dd
  have key : ∀ x y : Int, x ≠ 0 -> x * x * M = y * y * N -> x * M ≠ 0 /\ y * N ≠ 0 := fun x y hx e => by
    have h1 : x * M ≠ 0 := Int.mul_ne_zero hx (by omega)
    refine ⟨h1, fun z => ?_⟩
    have h2 : x * (x * M) = y * (y * N) := by rw [<- Int.mul_assoc, e, Int.mul_assoc]
    rw [z, Int.mul_zero] at h2
    exact Int.mul_ne_zero hx h1 h2
  have four : ∀ {x1 x2 x3 x4 y1 y2 y3 y4 : Int}, x1 = y1 -> x2 = y2 -> x3 = y3 -> x4 = y4 -> [x1, x2, x3, x4] = [y1, y2, y3, y4] := fun h1 h2 h3 h4 => by rw [h1, h2, h3, h4]
  by_cases ha : a = 0
  . by_cases hb : b = 0
    . by_cases hc : c = 0
      . by_cases hd : d = 0
        . subst ha hb hc hd
          obtain ⟨x, hx, h0⟩ := z1
          simp at hx; exact absurd hx h0
        . obtain ⟨k1, k2⟩ := key d h hd dd
          exact pl_prop k1 k2 (four (by grind) (by grind) (by grind) (by grind)) z1 z2
      . obtain ⟨k1, k2⟩ := key c g hc cc
        exact pl_prop k1 k2 (four (by grind) (by grind) (by grind) (by grind)) z1 z2
    . obtain ⟨k1, k2⟩ := key b f hb bb
      exact pl_prop k1 k2 (four (by grind) (by grind) (by grind) (by grind)) z1 z2
  . obtain ⟨k1, k2⟩ := key a e ha aa
    exact pl_prop k1 k2 (four (by grind) (by grind) (by grind) (by grind)) z1 z2
end K0
end
section
namespace K0
open PySem L2 Num
structure PC (H : Hp) (r : Addr) (c : Nat) (x y z : Rat) : Prop where
  ex : ∃ t1 b1 t2 b2 t3 b3, Pt H r [t1, b1] [t2, b2] [t3, b3] /\ Lo c t1 b1 x /\ Lo c t2 b2 y /\ Lo c t3 b3 z /\ ∃ C T1 T2 T3 : Int, 0 < C /\ Bt C c /\ Bt T1 c /\ Bt T2 c /\ Bt T3 c /\ qv T1 C = x /\ qv T2 C = y /\ qv T3 C = z
theorem qv_cross {t b t' b' : Int} (hb : b ≠ 0) (hb' : b' ≠ 0) (h : qv t b = qv t' b') : t * b' = t' * b := by
  have h1 := cast_ne hb
  have h2 := cast_ne hb'
  unfold qv at h
  have : (t : Rat) * b' = t' * b := by grind
  exact_mod_cast this
theorem low_dvd {k : Nat} {t b T C : Int} {x : Rat} (h : Lo k t b x) (hC : 0 < C) (hv : qv T C = x) : b ∣ C := by
  have hb := h.pos
  have e := qv_cross (by omega) (by omega) (h.val.trans hv.symm)
  have d : b.natAbs ∣ t.natAbs * C.natAbs := by
    rw [<- Int.natAbs_mul, e, Int.natAbs_mul]; exact Nat.dvd_mul_left _ _
  have co : Nat.Coprime b.natAbs t.natAbs := by unfold Nat.Coprime; rw [Nat.gcd_comm]; exact h.low
  exact Int.natAbs_dvd_natAbs.mp (co.dvd_of_dvd_mul_left d)
noncomputable def bk (n : List Int) : List Int := pl (cj n)
end K0
end
section
namespace K0
open PySem L2 Num
structure Tb (H : Hp) (r : Addr) (f11 f12 f13 f21 f22 f23 f31 f32 f33 : List Int) : Prop where
  ex : ∃ p1 p2 p3, H r = some (.tup [.ref p1, .ref p2, .ref p3]) /\ Pt H p1 f11 f12 f13 /\ Pt H p2 f21 f22 f23 /\ Pt H p3 f31 f32 f33
end K0
end
section
namespace L2
open PySem PySem.Spec PyProof.Rows
end L2
namespace K0
open PySem L2 Num
open PySem.W (Dat)
noncomputable def rs (ns : List Int) : List Int := match ns with | [a, _, _, _] => fr (a * a) (nrm ns) | _ => []
noncomputable def cr (a b c d e f : Int) : List Int := [b * f - c * e, c * d - a * f, a * e - b * d]
noncomputable def spCross (K : PySem.W.Frag) : Sp := fun vs H Q _ => ∃ (x y : Addr) (a b c d e f : Int), vs = [.ref x, .ref y] /\ SqT K H x ([a, b, c].map V.int) /\ SqT K H y ([d, e, f].map V.int) /\ Bd (2 ^ 4000) [a, b, c] /\ Bd (2 ^ 4000) [d, e, f] /\ ∀ (r : Addr) (H' : Hp), Same H H' -> H' r = some (.tup ((cr a b c d e f).map V.int)) -> Q (.ref r) H'
noncomputable def ps (k l : Int) : List Int := [k / unit [l, k], l / unit [l, k]]
end K0
end
section
namespace L2
open PySem PySem.Spec PyProof.Rows
noncomputable abbrev eh (h : Heap) (l : Addr) : Heap := h.push { cls := .type "tuple_iterator", data := .fields #[.ref l, .int 0 0] }
end L2
end
section
namespace D
open PySem L2 K0
open PySem.W (Dat)
inductive Sl where
  | un | dat (d : Dat) | pu | own (ds : List Dat) | vw (ds : List Dat)
noncomputable def SqN (N : Addr -> Prop) (K : PySem.W.Frag) (H : Hp) (a : Addr) (xs : List V) : Prop := (N a /\ Rd H a (.lst xs)) \/ SqL K (fun _ => none) a xs
theorem SqN.sq {N : Addr -> Prop} {K : PySem.W.Frag} {H : Hp} {a : Addr} {xs : List V} (h : SqN N K H a xs) : SqL K H a xs := by
  rcases h with ⟨_, h⟩ | (h | ⟨o, h⟩) | h
  . exact .inl h
  . cases h
  . cases h
  . exact .inr h
mutual
inductive Dz (N : Addr -> Prop) (K : PySem.W.Frag) (H : Hp) : V -> Dat -> Prop
  | none : Dz N K H .non .none
  | bool (b : Bool) : Dz N K H (.bl b) (.bool b)
  | int (i : Int) : Dz N K H (.int i) (.int i)
  | str (x : Str) : Dz N K H (.str x) (.str x)
  | tup {a : Addr} {xs : List V} {ds : List Dat} : SqT K H a xs -> Dzs N K H xs ds -> Dz N K H (.ref a) (.tuple ds)
  | lst {a : Addr} {xs : List V} {ds : List Dat} : SqN N K H a xs -> Dzs N K H xs ds -> Dz N K H (.ref a) (.list ds)
inductive Dzs (N : Addr -> Prop) (K : PySem.W.Frag) (H : Hp) : List V -> List Dat -> Prop
  | nil : Dzs N K H [] []
  | cons {x : V} {d : Dat} {xs : List V} {ds : List Dat} : Dz N K H x d -> Dzs N K H xs ds -> Dzs N K H (x :: xs) (d :: ds)
end
structure Ev (W : Addr -> Prop) (H H' : Hp) : Prop where
  keep : ∀ b o, ¬ W b -> H b = some o -> H' b = some o
  tm : Tm H H'
theorem Ev.refl {W : Addr -> Prop} {H : Hp} : Ev W H H := ⟨fun _ _ _ h => h, Tm.refl _⟩
theorem Ev.trans {W : Addr -> Prop} {H H1 H2 : Hp} (a : Ev W H H1) (b : Ev W H1 H2) : Ev W H H2 := ⟨fun c o n h => b.keep c o n (a.keep c o n h), a.tm.trans b.tm⟩
theorem Ev.of {W : Addr -> Prop} {H H' : Hp} (s : Same H H') : Ev W H H' := ⟨fun c o _ h => s c o h, s.tm⟩
theorem Ev.mono {W W' : Addr -> Prop} {H H' : Hp} (a : Ev W H H') (m : ∀ b, W b -> W' b) : Ev W' H H' := ⟨fun c o n h => a.keep c o (fun z => n (m c z)) h, a.tm⟩
section
variable {N N' : Addr -> Prop} {K : PySem.W.Frag} {H H' : Hp}
mutual
theorem Dz.ev {W : Addr -> Prop} (e : Ev W H H') (nw : ∀ a, N a -> ¬ W a) : ∀ {v : V} {d : Dat}, Dz N K H v d -> Dz N K H' v d
  | _, _, .none => .none
  | _, _, .bool b => .bool b
  | _, _, .int i => .int i
  | _, _, .str x => .str x
  | _, _, .tup h r => .tup (e.tm _ _ _ h) (Dzs.ev e nw r)
  | _, _, .lst h r => .lst (by
      rcases h with ⟨n, h | ⟨o, h⟩⟩ | h
      . exact .inl ⟨n, .inl (e.keep _ _ (nw _ n) h)⟩
      . exact .inl ⟨n, .inr ⟨o, e.keep _ _ (nw _ n) h⟩⟩
      . exact .inr h) (Dzs.ev e nw r)
theorem Dzs.ev {W : Addr -> Prop} (e : Ev W H H') (nw : ∀ a, N a -> ¬ W a) : ∀ {v : List V} {d : List Dat}, Dzs N K H v d -> Dzs N K H' v d
  | _, _, .nil => .nil
  | _, _, .cons h r => .cons (Dz.ev e nw h) (Dzs.ev e nw r)
end
mutual
theorem Dz.mono (m : ∀ a, N a -> N' a) : ∀ {v : V} {d : Dat}, Dz N K H v d -> Dz N' K H v d
  | _, _, .none => .none
  | _, _, .bool b => .bool b
  | _, _, .int i => .int i
  | _, _, .str x => .str x
  | _, _, .tup h r => .tup h (Dzs.mono m r)
  | _, _, .lst h r => .lst (h.elim (fun z => .inl ⟨m _ z.1, z.2⟩) .inr) (Dzs.mono m r)
theorem Dzs.mono (m : ∀ a, N a -> N' a) : ∀ {v : List V} {d : List Dat}, Dzs N K H v d -> Dzs N' K H v d
  | _, _, .nil => .nil
  | _, _, .cons h r => .cons (Dz.mono m h) (Dzs.mono m r)
end
mutual
theorem Dz.is : ∀ {v : V} {d : Dat}, Dz N K H v d -> Is K H v d
  | _, _, .none => .none
  | _, _, .bool b => .bool b
  | _, _, .int i => .int i
  | _, _, .str x => .str x
  | _, _, .tup h r => .tup h (Dzs.is r)
  | _, _, .lst h r => .lst h.sq (Dzs.is r)
theorem Dzs.is : ∀ {v : List V} {d : List Dat}, Dzs N K H v d -> Iss K H v d
  | _, _, .nil => .nil
  | _, _, .cons h r => .cons (Dz.is h) (Dzs.is r)
end
theorem Dzs.len : ∀ {v : List V} {d : List Dat}, Dzs N K H v d -> v.length = d.length
  | _, _, .nil => rfl
  | _, _, .cons _ r => by rw [List.length_cons, List.length_cons, Dzs.len r]
theorem Dzs.app : ∀ {v v' : List V} {d d' : List Dat}, Dzs N K H v d -> Dzs N K H v' d' -> Dzs N K H (v ++ v') (d ++ d')
  | _, _, _, _, .nil, h => h
  | _, _, _, _, .cons a r, h => .cons a (Dzs.app r h)
theorem Dzs.get : ∀ {v : List V} {d : List Dat} {i : Nat} {e : Dat}, Dzs N K H v d -> d[i]? = some e -> ∃ x, v[i]? = some x /\ Dz N K H x e
  | _, _, _, _, .nil, h => by simp at h
  | _, _, 0, _, .cons a r, h => by simp at h; subst h; exact ⟨_, rfl, a⟩
  | _, _, i + 1, e, .cons a r, h => by
    obtain ⟨x, q, z⟩ := Dzs.get (i := i) r (by simpa using h)
    exact ⟨x, by simpa using q, z⟩
theorem Dzs.drop : ∀ {v : List V} {d : List Dat} (n : Nat), Dzs N K H v d -> Dzs N K H (v.drop n) (d.drop n)
  | _, _, 0, h => h
  | _, _, n + 1, .nil => .nil
  | _, _, n + 1, .cons a r => by simpa using Dzs.drop n r
theorem Dzs.take : ∀ {v : List V} {d : List Dat} (n : Nat), Dzs N K H v d -> Dzs N K H (v.take n) (d.take n)
  | _, _, 0, h => by simpa using Dzs.nil
  | _, _, n + 1, .nil => .nil
  | _, _, n + 1, .cons a r => by simpa using Dzs.cons a (Dzs.take n r)
theorem Dzs.ints (ns : List Int) : Dzs N K H (ns.map V.int) (ns.map Dat.int) := by
  induction ns with
  | nil => exact .nil
  | cons n ns ih => exact .cons (.int n) ih
theorem Dzs.inv : ∀ {vs : List V} {ns : List Int}, Dzs N K H vs (ns.map Dat.int) -> vs = ns.map V.int
  | _, [], h => by cases h; rfl
  | _, n :: ns, h => by
    cases h with
    | cons a r => cases a; rw [Dzs.inv r]; rfl
end
mutual
noncomputable def noL : Dat -> Bool
  | .tuple ds => noLs ds
  | .list _ => false
  | .none => true
  | .bool _ => true
  | .int _ => true
  | .str _ => true
  | _ => false
noncomputable def noLs : List Dat -> Bool
  | [] => true
  | d :: r => noL d && noLs r
end
section
variable {N N' : Addr -> Prop} {K : PySem.W.Frag} {H H' : Hp}
mutual
theorem Dz.free : ∀ {v : V} {d : Dat}, Dz N K H v d -> noL d = true -> Dz N' K H v d
  | _, _, .none, _ => .none
  | _, _, .bool b, _ => .bool b
  | _, _, .int i, _ => .int i
  | _, _, .str x, _ => .str x
  | _, _, .tup h r, z => .tup h (Dzs.free r (by rw [noL] at z; exact z))
  | _, _, .lst h r, z => by rw [noL] at z; cases z
theorem Dzs.free : ∀ {v : List V} {d : List Dat}, Dzs N K H v d -> noLs d = true -> Dzs N' K H v d
  | _, _, .nil, _ => .nil
  | _, _, .cons h r, z => by
    rw [noLs, Bool.and_eq_true] at z
    exact .cons (Dz.free h z.1) (Dzs.free r z.2)
end
end
theorem noLs_ints (ns : List Int) : noLs (ns.map .int) = true := by
  induction ns with
  | nil => rw [List.map_nil, noLs]
  | cons n r ih => rw [List.map_cons, noLs, ih, noL]; rfl
structure Ok (p : Option Addr) (W : Addr -> Prop) (H : Hp) : Prop where
  pu : ∀ q, p = some q -> Pu H q /\ W q
  al : ∀ a, W a -> ∃ ys, H a = some (.lst ys)
inductive Rs (p : Option Addr) (W : Addr -> Prop) (K : PySem.W.Frag) (H : Hp) : List Addr -> St -> List Sl -> Prop
  | nil : Rs p W K H [] [] []
  | un {L : List Addr} {σ : St} {τ : List Sl} {o : Option V} : Rs p W K H L σ τ -> Rs p W K H L (o :: σ) (.un :: τ)
  | dat {L : List Addr} {σ : St} {τ : List Sl} {v : V} {d : Dat} : Dz (fun a => ¬ W a) K H v d -> Rs p W K H L σ τ -> Rs p W K H L (some v :: σ) (.dat d :: τ)
  | pu {L : List Addr} {σ : St} {τ : List Sl} {q : Addr} : p = some q -> Rs p W K H L σ τ -> Rs p W K H L (some (.ref q) :: σ) (.pu :: τ)
  | own {L : List Addr} {σ : St} {τ : List Sl} {a : Addr} {vs : List V} {ds : List Dat} : W a -> p ≠ some a -> a ∉ L -> H a = some (.lst vs) -> Dzs (fun a => ¬ W a) K H vs ds -> Rs p W K H L σ τ -> Rs p W K H (a :: L) (some (.ref a) :: σ) (.own ds :: τ)
noncomputable def Rv (p : Option Addr) (W : Addr -> Prop) (K : PySem.W.Frag) (H H' : Hp) (v : V) : Sl -> Prop
  | .un => True
  | .dat d => Dz (fun a => ¬ W a) K H' v d
  | .pu => ∃ q, p = some q /\ v = .ref q
  | .own ds => ∃ a vs, v = .ref a /\ H a = none /\ H' a = some (.lst vs) /\ Dzs (fun a => ¬ W a) K H' vs ds
  | .vw ds => ∃ a vs, v = .ref a /\ SqN (fun a => p ≠ some a) K H' a vs /\ Dzs (fun a => ¬ W a) K H' vs ds
inductive Rvs (p : Option Addr) (W : Addr -> Prop) (K : PySem.W.Frag) (H H' : Hp) : List V -> List Sl -> Prop
  | nil : Rvs p W K H H' [] []
  | cons {v : V} {s : Sl} {vs : List V} {ss : List Sl} : Rv p W K H H' v s -> Rvs p W K H H' vs ss -> Rvs p W K H H' (v :: vs) (s :: ss)
noncomputable def Pp (p : Option Addr) : Addr -> Prop := fun a => p = some a
section
variable {p : Option Addr} {W : Addr -> Prop} {K : PySem.W.Frag} {H H1 H' : Hp} {σ : St} {τ : List Sl} {L : List Addr} {v : V} {s : Sl}
theorem Ok.ev (o : Ok p W H) (e : Ev (Pp p) H H') (q : ∀ q, p = some q -> Pu H' q) : Ok p W H' := ⟨fun a ha => ⟨q a ha, (o.pu a ha).2⟩, fun a ha => by
  by_cases z : p = some a
  . obtain ⟨x, y, h⟩ := q a z; exact ⟨_, h⟩
  . obtain ⟨ys, h⟩ := o.al a ha; exact ⟨ys, e.keep _ _ z h⟩⟩
theorem Rs.ev (r : Rs p W K H L σ τ) (e : Ev (Pp p) H H') (pw : ∀ q, p = some q -> W q) : Rs p W K H' L σ τ := by
  have nw : ∀ a, ¬ W a -> ¬ Pp p a := fun a n z => n (pw a z)
  induction r with
  | nil => exact .nil
  | un _ ih => exact .un ih
  | dat h _ ih => exact .dat (h.ev e nw) ih
  | pu h _ ih => exact .pu h ih
  | own h1 h2 h3 h4 h5 _ ih => exact .own h1 h2 h3 (e.keep _ _ h2 h4) (h5.ev e nw) ih
theorem Rs.get_dat (r : Rs p W K H L σ τ) : ∀ {i : Nat} {d : Dat}, τ[i]? = some (.dat d) -> ∃ v, σ[i]? = some (some v) /\ Dz (fun a => ¬ W a) K H v d := by
  induction r with
  | nil => intro i d h; simp at h
  | un _ ih =>
    intro i d h
    match i, h with
    | 0, h => simp at h
    | i + 1, h => exact ih (i := i) (by simpa using h)
  | dat z _ ih =>
    intro i d h
    match i, h with
    | 0, h => simp at h; subst h; exact ⟨_, rfl, z⟩
    | i + 1, h => exact ih (i := i) (by simpa using h)
  | pu _ _ ih =>
    intro i d h
    match i, h with
    | 0, h => simp at h
    | i + 1, h => exact ih (i := i) (by simpa using h)
  | own _ _ _ _ _ _ ih =>
    intro i d h
    match i, h with
    | 0, h => simp at h
    | i + 1, h => exact ih (i := i) (by simpa using h)
theorem Rs.get_pu (r : Rs p W K H L σ τ) : ∀ {i : Nat}, τ[i]? = some .pu -> ∃ q, p = some q /\ σ[i]? = some (some (.ref q)) := by
  induction r with
  | nil => intro i h; simp at h
  | un _ ih =>
    intro i h
    match i, h with
    | 0, h => simp at h
    | i + 1, h => exact ih (i := i) (by simpa using h)
  | dat z _ ih =>
    intro i h
    match i, h with
    | 0, h => simp at h
    | i + 1, h => exact ih (i := i) (by simpa using h)
  | pu z _ ih =>
    intro i h
    match i, h with
    | 0, h => exact ⟨_, z, rfl⟩
    | i + 1, h => exact ih (i := i) (by simpa using h)
  | own _ _ _ _ _ _ ih =>
    intro i h
    match i, h with
    | 0, h => simp at h
    | i + 1, h => exact ih (i := i) (by simpa using h)
theorem Rs.get_own (r : Rs p W K H L σ τ) : ∀ {i : Nat} {ds : List Dat}, τ[i]? = some (.own ds) -> ∃ a vs, σ[i]? = some (some (.ref a)) /\ W a /\ p ≠ some a /\ a ∈ L /\ H a = some (.lst vs) /\ Dzs (fun a => ¬ W a) K H vs ds := by
  induction r with
  | nil => intro i ds h; simp at h
  | un _ ih =>
    intro i ds h
    match i, h with
    | 0, h => simp at h
    | i + 1, h => exact ih (i := i) (by simpa using h)
  | dat z _ ih =>
    intro i ds h
    match i, h with
    | 0, h => simp at h
    | i + 1, h => exact ih (i := i) (by simpa using h)
  | pu z _ ih =>
    intro i ds h
    match i, h with
    | 0, h => simp at h
    | i + 1, h => exact ih (i := i) (by simpa using h)
  | own h1 h2 h3 h4 h5 _ ih =>
    intro i ds h
    match i, h with
    | 0, h => simp at h; subst h; exact ⟨_, _, rfl, h1, h2, List.mem_cons_self, h4, h5⟩
    | i + 1, h =>
      obtain ⟨a, vs, e1, e2, e3, e4, e5⟩ := ih (i := i) (by simpa using h)
      exact ⟨a, vs, by simpa using e1, e2, e3, List.mem_cons_of_mem _ e4, e5⟩
theorem Rs.set (r : Rs p W K H L σ τ) {v : V} {s : Sl} (hs : (s = .un) \/ (∃ d, s = .dat d /\ Dz (fun a => ¬ W a) K H v d) \/ (s = .pu /\ ∃ q, p = some q /\ v = .ref q)) : ∀ (i : Nat), ∃ L', (∀ a, a ∈ L' -> a ∈ L) /\ Rs p W K H L' (σ.set i (some v)) (τ.set i s) := by
  induction r with
  | nil => intro i; exact ⟨[], fun _ h => h, .nil⟩
  | un r ih =>
    intro i
    match i with
    | 0 =>
      rcases hs with rfl | ⟨d, rfl, z⟩ | ⟨rfl, q, z, rfl⟩
      . exact ⟨_, fun _ h => h, .un r⟩
      . exact ⟨_, fun _ h => h, .dat z r⟩
      . exact ⟨_, fun _ h => h, .pu z r⟩
    | i + 1 => obtain ⟨L', h1, h2⟩ := ih i; exact ⟨L', h1, .un h2⟩
  | dat y r ih =>
    intro i
    match i with
    | 0 =>
      rcases hs with rfl | ⟨d, rfl, z⟩ | ⟨rfl, q, z, rfl⟩
      . exact ⟨_, fun _ h => h, .un r⟩
      . exact ⟨_, fun _ h => h, .dat z r⟩
      . exact ⟨_, fun _ h => h, .pu z r⟩
    | i + 1 => obtain ⟨L', h1, h2⟩ := ih i; exact ⟨L', h1, .dat y h2⟩
  | pu y r ih =>
    intro i
    match i with
    | 0 =>
      rcases hs with rfl | ⟨d, rfl, z⟩ | ⟨rfl, q, z, rfl⟩
      . exact ⟨_, fun _ h => h, .un r⟩
      . exact ⟨_, fun _ h => h, .dat z r⟩
      . exact ⟨_, fun _ h => h, .pu z r⟩
    | i + 1 => obtain ⟨L', h1, h2⟩ := ih i; exact ⟨L', h1, .pu y h2⟩
  | own h1 h2 h3 h4 h5 r ih =>
    intro i
    match i with
    | 0 =>
      rcases hs with rfl | ⟨d, rfl, z⟩ | ⟨rfl, q, z, rfl⟩
      . exact ⟨_, fun _ h => List.mem_cons_of_mem _ h, .un r⟩
      . exact ⟨_, fun _ h => List.mem_cons_of_mem _ h, .dat z r⟩
      . exact ⟨_, fun _ h => List.mem_cons_of_mem _ h, .pu z r⟩
    | i + 1 =>
      obtain ⟨L', g1, g2⟩ := ih i
      refine ⟨_ :: L', fun b hb => ?_, .own h1 h2 (fun z => h3 (g1 _ z)) h4 h5 g2⟩
      rcases List.mem_cons.mp hb with rfl | hb
      . exact List.mem_cons_self
      . exact List.mem_cons_of_mem _ (g1 b hb)
theorem Rs.wide {W' : Addr -> Prop} (r : Rs p W K H L σ τ) (m : ∀ a, W a -> W' a) (n : ∀ a, W' a -> ¬ W a -> H a = none) : Rs p W' K H L σ τ := by
  induction r with
  | nil => exact .nil
  | un _ ih => exact .un ih
  | dat h _ ih => exact .dat (wideZ h) ih
  | pu h _ ih => exact .pu h ih
  | own h1 h2 h3 h4 h5 _ ih => exact .own (m _ h1) h2 h3 h4 (wideZs h5) ih
where
  wideZ : ∀ {v : V} {d : Dat}, Dz (fun a => ¬ W a) K H v d -> Dz (fun a => ¬ W' a) K H v d
    | _, _, .none => .none
    | _, _, .bool b => .bool b
    | _, _, .int i => .int i
    | _, _, .str x => .str x
    | _, _, .tup h r => .tup h (wideZs r)
    | _, _, .lst h r => .lst (by
        rcases h with ⟨nn, h⟩ | h
        . refine .inl ⟨fun z => ?_, h⟩
          have e1 := n _ z nn
          rcases h with h | ⟨o, h⟩
          . rw [e1] at h; cases h
          . rw [e1] at h; cases h
        . exact .inr h) (wideZs r)
  wideZs : ∀ {v : List V} {d : List Dat}, Dzs (fun a => ¬ W a) K H v d -> Dzs (fun a => ¬ W' a) K H v d
    | _, _, .nil => .nil
    | _, _, .cons h r => .cons (wideZ h) (wideZs r)
end
end D
end
section
namespace D
open PySem L2 K0
open PySem.W (Dat)
section
variable (p : Option Addr) (K : PySem.W.Frag)
noncomputable def E (te : TE) (τ : List Sl) (C : Sl -> Prop) : Prop := ∀ (W : Addr -> Prop) (L : List Addr) (σ : St) (H : Hp) (Q : VK), Rs p W K H L σ τ -> Ok p W H -> (∀ v H' s, C s -> Ev (Pp p) H H' -> Ok p W H' -> Rv p W K H H' v s -> Q v H') -> te σ H Q
noncomputable def E1 (te : TE) (τ : List Sl) (s : Sl) : Prop := E p K te τ (fun x => s = x)
noncomputable def A (ta : TA) (τ : List Sl) (C : List Sl -> Prop) : Prop := ∀ (W : Addr -> Prop) (L : List Addr) (σ : St) (H : Hp) (Q : List V -> Hp -> Prop), Rs p W K H L σ τ -> Ok p W H -> (∀ vs H' ss, C ss -> Ev (Pp p) H H' -> Ok p W H' -> Rvs p W K H H' vs ss -> Q vs H') -> ta σ H Q
noncomputable def A1 (ta : TA) (τ : List Sl) (ss : List Sl) : Prop := A p K ta τ (fun x => ss = x)
noncomputable def T (tt : TT) (τ : List Sl) (C : Bool -> Prop) : Prop := ∀ (W : Addr -> Prop) (L : List Addr) (σ : St) (H : Hp) (Q : Bool -> Hp -> Prop), Rs p W K H L σ τ -> Ok p W H -> (∀ b H', C b -> Ev (Pp p) H H' -> Ok p W H' -> Q b H') -> tt σ H Q
noncomputable def T1 (tt : TT) (τ : List Sl) (b : Bool) : Prop := T p K tt τ (fun x => b = x)
end
section
variable {p : Option Addr} {K : PySem.W.Frag} {W : Addr -> Prop} {L : List Addr} {σ : St} {H H0 H1 H2 : Hp} {τ : List Sl} {ta tb te : TE} {tas : TA} {v : V} {s : Sl}
theorem Ok.pw (o : Ok p W H) : ∀ q, p = some q -> W q := fun q h => (o.pu q h).2
theorem Ok.nw (o : Ok p W H) : ∀ a, ¬ W a -> ¬ Pp p a := fun a n z => n (o.pw a z)
theorem Ok.same (o : Ok p W H) (s : Same H H1) : Ok p W H1 := o.ev (Ev.of s) fun q h => (o.pu q h).1.same s
theorem Ok.back (o : Ok p W H1) (e : Ev (Pp p) H H1) {a : Addr} (h : H1 a = none) : H a = none := by
  cases q : H a with
  | none => rfl
  | some u =>
    by_cases z : p = some a
    . obtain ⟨x, y, e2⟩ := (o.pu a z).1; rw [h] at e2; cases e2
    . rw [e.keep _ _ z q] at h; cases h
theorem Ok.fresh (o : Ok p W H) {a : Addr} (h : H a = none) : ¬ W a := fun z => by
  obtain ⟨ys, e⟩ := o.al a z; rw [h] at e; cases e
theorem Ok.np (o : Ok p W H) {a : Addr} (h : H a = none) : p ≠ some a := fun z => o.fresh h (o.pw a z)
theorem Rv.ev (h : Rv p W K H0 H v s) (e : Ev (Pp p) H H1) (o : Ok p W H) (o0 : Ok p W H0) : Rv p W K H0 H1 v s := by
  cases s with
  | un => trivial
  | dat d => exact Dz.ev e o.nw h
  | pu => exact h
  | own ds =>
    obtain ⟨a, vs, rfl, h1, h2, h3⟩ := h
    exact ⟨a, vs, rfl, h1, e.keep _ _ (o0.np h1) h2, h3.ev e o.nw⟩
  | vw ds =>
    obtain ⟨a, vs, rfl, h2, h3⟩ := h
    refine ⟨a, vs, rfl, ?_, h3.ev e o.nw⟩
    rcases h2 with ⟨z, h2 | ⟨u, h2⟩⟩ | h2
    . exact .inl ⟨z, .inl (e.keep _ _ z h2)⟩
    . exact .inl ⟨z, .inr ⟨u, e.keep _ _ z h2⟩⟩
    . exact .inr h2
theorem Rv.base (h : Rv p W K H1 H v s) (e : Ev (Pp p) H0 H1) (o1 : Ok p W H1) : Rv p W K H0 H v s := by
  cases s with
  | own ds => obtain ⟨a, vs, rfl, h1, h2⟩ := h; exact ⟨a, vs, rfl, o1.back e h1, h2⟩
  | _ => exact h
theorem Rvs.base {vs : List V} {ss : List Sl} (h : Rvs p W K H1 H vs ss) (e : Ev (Pp p) H0 H1) (o1 : Ok p W H1) : Rvs p W K H0 H vs ss := by
  induction h with
  | nil => exact .nil
  | cons a _ ih => exact .cons (a.base e o1) ih
theorem E.mono {C C' : Sl -> Prop} (h : E p K te τ C) (m : ∀ s, C s -> C' s) : E p K te τ C' := fun W L σ H Q r o q => h W L σ H Q r o fun v H' s c => q v H' s (m s c)
theorem E1.var {i : Nat} {d : Dat} (h : τ[i]? = some (.dat d)) : E1 p K (tVar i) τ (.dat d) := fun W L σ H Q r o q => by
  obtain ⟨v, e, z⟩ := r.get_dat h
  exact ⟨v, e, q v H _ rfl Ev.refl o z⟩
theorem E1.varP {i : Nat} (h : τ[i]? = some .pu) : E1 p K (tVar i) τ .pu := fun W L σ H Q r o q => by
  obtain ⟨a, e, z⟩ := r.get_pu h
  exact ⟨_, z, q _ H _ rfl Ev.refl o ⟨a, e, rfl⟩⟩
theorem E1.varO {i : Nat} {ds : List Dat} (h : τ[i]? = some (.own ds)) : E1 p K (tVar i) τ (.vw ds) := fun W L σ H Q r o q => by
  obtain ⟨a, vs, e, w, n, _, h1, z⟩ := r.get_own h
  exact ⟨_, e, q _ H _ rfl Ev.refl o ⟨a, vs, rfl, .inl ⟨n, .inl h1⟩, z⟩⟩
theorem E1.varL {i : Nat} {ds : List Dat} (h : τ[i]? = some (.dat (.list ds))) : E1 p K (tVar i) τ (.vw ds) := fun W L σ H Q r o q => by
  obtain ⟨v, e, z⟩ := r.get_dat h
  cases z with
  | lst h1 h2 => exact ⟨_, e, q _ H _ rfl Ev.refl o ⟨_, _, rfl, h1.elim (fun z => .inl ⟨fun y => z.1 (o.pw _ y), z.2⟩) .inr, h2⟩⟩
theorem E1.int {i : Int} : E1 p K (tC (.int i)) τ (.dat (.int i)) := fun W L σ H Q r o q => q _ H _ rfl Ev.refl o (.int i)
theorem E1.bl {i : Bool} : E1 p K (tC (.bl i)) τ (.dat (.bool i)) := fun W L σ H Q r o q => q _ H _ rfl Ev.refl o (.bool i)
theorem E1.non : E1 p K (tC .non) τ (.dat .none) := fun W L σ H Q r o q => q _ H _ rfl Ev.refl o .none
theorem E1.str {x : Str} : E1 p K (tC (.str x)) τ (.dat (.str x)) := fun W L σ H Q r o q => q _ H _ rfl Ev.refl o (.str x)
theorem E1.frz {ds : List Dat} (h : E1 p K te τ (.own ds)) : E1 p K te τ (.dat (.list ds)) := fun W L σ H Q r o q => h W L σ H Q r o fun v H' s e ev o' rv => by
  subst e
  obtain ⟨a, vs, rfl, h1, h2, h3⟩ := rv
  exact q _ H' _ rfl ev o' (.lst (.inl ⟨o.fresh h1, .inl h2⟩) h3)
theorem E1.vwo {ds : List Dat} (h : E1 p K te τ (.own ds)) : E1 p K te τ (.vw ds) := fun W L σ H Q r o q => h W L σ H Q r o fun v H' s e ev o' rv => by
  subst e
  obtain ⟨a, vs, rfl, h1, h2, h3⟩ := rv
  exact q _ H' _ rfl ev o' ⟨a, vs, rfl, .inl ⟨o.np h1, .inl h2⟩, h3⟩
theorem E1.vwd {ds : List Dat} (h : E1 p K te τ (.dat (.list ds))) : E1 p K te τ (.vw ds) := fun W L σ H Q r o q => h W L σ H Q r o fun v H' s e ev o' rv => by
  subst e
  cases rv with
  | lst h1 h2 => exact q _ H' _ rfl ev o' ⟨_, _, rfl, h1.elim (fun z => .inl ⟨fun y => z.1 (o.pw _ y), z.2⟩) .inr, h2⟩
theorem E.op2 {r : R2} {A B C : Sl -> Prop} {B' : Sl -> Sl -> Prop} (ha : E p K ta τ A) (hb : ∀ s, A s -> E p K tb τ (B' s))
    (hr : ∀ s t, A s -> B' s t -> ∀ (W : Addr -> Prop) (H0 H : Hp) (x y : V) (Q : VK), Ok p W H0 -> Ok p W H -> Rv p W K H0 H x s -> Rv p W K H0 H y t -> (∀ v H' u, C u -> Ev (Pp p) H H' -> Ok p W H' -> Rv p W K H0 H' v u -> Q v H') -> r x y H Q) : E p K (tOp r ta tb) τ C :=
  fun W L σ H Q rs o q => ha W L σ H _ rs o fun x H1 s cs e1 o1 rv1 => hb s cs W L σ H1 _ (rs.ev e1 o.pw) o1 fun y H2 t ct e2 o2 rv2 =>
    hr s t cs ct W H H2 x y _ o o2 (rv1.ev e2 o1 o) (rv2.base e1 o1) fun v H' u cu e3 o3 rv3 => q v H' u cu ((e1.trans e2).trans e3) o3 rv3
theorem E1.op2 {r : R2} {a b c : Sl} (ha : E1 p K ta τ a) (hb : E1 p K tb τ b)
    (hr : ∀ (W : Addr -> Prop) (H0 H : Hp) (x y : V) (Q : VK), Ok p W H0 -> Ok p W H -> Rv p W K H0 H x a -> Rv p W K H0 H y b -> (∀ v H', Ev (Pp p) H H' -> Ok p W H' -> Rv p W K H0 H' v c -> Q v H') -> r x y H Q) : E1 p K (tOp r ta tb) τ c :=
  E.op2 (B := fun _ => True) (B' := fun _ x => b = x) ha (fun _ _ => hb) fun s t hs ht W H0 H x y Q o0 o r1 r2 q => by
    subst hs ht
    exact hr W H0 H x y Q o0 o r1 r2 fun v H' => q v H' c rfl
theorem Rv.int_inv {i : Int} (h : Rv p W K H0 H v (.dat (.int i))) : v = .int i := by cases h; rfl
theorem Rv.bl_inv {i : Bool} (h : Rv p W K H0 H v (.dat (.bool i))) : v = .bl i := by cases h; rfl
theorem Rv.non_inv (h : Rv p W K H0 H v (.dat .none)) : v = .non := by cases h; rfl
theorem E1.opI0 {g : Int -> Int -> V} {i j : Int} {d : Dat} (ha : E1 p K ta τ (.dat (.int i))) (hb : E1 p K tb τ (.dat (.int j))) (hd : ∀ (N : Addr -> Prop) (K : PySem.W.Frag) (H : Hp), Dz N K H (g i j) d) : E1 p K (tOp (rI0 g) ta tb) τ (.dat d) :=
  E1.op2 ha hb fun W H0 H x y Q o0 o r1 r2 q => ⟨i, j, r1.int_inv, r2.int_inv, q _ H Ev.refl o (hd _ K H)⟩
theorem E1.opI {g : Int -> Int -> V} {Cn : Int -> Int -> Prop} {i j : Int} {d : Dat} (ha : E1 p K ta τ (.dat (.int i))) (hb : E1 p K tb τ (.dat (.int j))) (hc : Cn i j) (hd : ∀ (N : Addr -> Prop) (K : PySem.W.Frag) (H : Hp), Dz N K H (g i j) d) : E1 p K (tOp (rI Cn g) ta tb) τ (.dat d) :=
  E1.op2 ha hb fun W H0 H x y Q o0 o r1 r2 q => ⟨i, j, r1.int_inv, r2.int_inv, hc, q _ H Ev.refl o (hd _ K H)⟩
section
variable {i j : Int} (ha : E1 p K ta τ (.dat (.int i))) (hb : E1 p K tb τ (.dat (.int j)))
include ha hb
theorem E1.add : E1 p K (tOp (rI0 fun i j => .int (i + j)) ta tb) τ (.dat (.int (i + j))) := E1.opI0 ha hb fun _ _ _ => .int _
theorem E1.sub : E1 p K (tOp (rI0 fun i j => .int (i - j)) ta tb) τ (.dat (.int (i - j))) := E1.opI0 ha hb fun _ _ _ => .int _
theorem E1.mul (hc : IntMulOk i j) : E1 p K (tOp (rI IntMulOk fun i j => .int (i * j)) ta tb) τ (.dat (.int (i * j))) := E1.opI ha hb hc fun _ _ _ => .int _
theorem E1.fdiv (hc : CDivB i j) : E1 p K (tOp (rI CDivB fun i j => .int (i.fdiv j)) ta tb) τ (.dat (.int (i.fdiv j))) := E1.opI ha hb hc fun _ _ _ => .int _
theorem E1.pow (hc : CPow i j) : E1 p K (tOp (rI CPow fun i j => .int (i ^ j.toNat)) ta tb) τ (.dat (.int (i ^ j.toNat))) := E1.opI ha hb hc fun _ _ _ => .int _
theorem E1.gt : E1 p K (tOp (rI0 fun i j => .bl (decide (j < i))) ta tb) τ (.dat (.bool (decide (j < i)))) := E1.opI0 ha hb fun _ _ _ => .bool _
theorem E1.ne : E1 p K (tOp rNe ta tb) τ (.dat (.bool (!decide (i = j)))) := E1.op2 ha hb fun W H0 H x y Q o0 o r1 r2 q => by
  cases r1.int_inv; cases r2.int_inv
  refine ⟨rfl, q _ H Ev.refl o ?_⟩
  have e : decide (V.int i = V.int j) = decide (i = j) := by rw [decide_eq_decide]; exact ⟨fun h => by injection h, fun h => by rw [h]⟩
  rw [e]; exact .bool _
end
noncomputable def datOf : Sl -> Option Dat
  | .dat d => some d
  | .vw ds => some (.list ds)
  | .own ds => some (.list ds)
  | _ => none
theorem Rv.isD {d : Dat} (h : Rv p W K H0 H v s) (e : datOf s = some d) : Is K H v d := by
  cases s with
  | un => cases e
  | pu => cases e
  | dat d' => cases e; exact Dz.is h
  | own ds => cases e; obtain ⟨a, vs, rfl, _, h2, h3⟩ := h; exact .lst (SqL.of h2) h3.is
  | vw ds => cases e; obtain ⟨a, vs, rfl, h2, h3⟩ := h; exact .lst h2.sq h3.is
theorem E1.eqD {a b : Sl} {d e : Dat} (ha : E1 p K ta τ a) (hb : E1 p K tb τ b) (ea : datOf a = some d) (eb : datOf b = some e) (k1 : PySem.W.kqdOk 9 d = true) (k2 : PySem.W.kqdOk 9 e = true) : E1 p K (tOp (rEqD K false) ta tb) τ (.dat (.bool (deq d e))) :=
  E1.op2 ha hb fun W H0 H x y Q o0 o r1 r2 q => ⟨d, e, r1.isD ea, r2.isD eb, k1, k2, q _ H Ev.refl o (.bool _)⟩
theorem E1.neD {a b : Sl} {d e : Dat} (ha : E1 p K ta τ a) (hb : E1 p K tb τ b) (ea : datOf a = some d) (eb : datOf b = some e) (k1 : PySem.W.kqdOk 9 d = true) (k2 : PySem.W.kqdOk 9 e = true) : E1 p K (tOp (rEqD K true) ta tb) τ (.dat (.bool (!deq d e))) :=
  E1.op2 ha hb fun W H0 H x y Q o0 o r1 r2 q => ⟨d, e, r1.isD ea, r2.isD eb, k1, k2, q _ H Ev.refl o (.bool _)⟩
theorem atI_dz {N : Addr -> Prop} {xs : List V} {ds : List Dat} {i : Int} {d : Dat} (h : Dzs N K H xs ds) (e : atI ds i = some d) : ∃ x, atI xs i = some x /\ Dz N K H x d := by
  unfold atI at e ⊢
  rw [h.len]
  cases q : ixN ds.length i with
  | none => rw [q] at e; cases e
  | some j =>
    rw [q] at e
    obtain ⟨x, e1, e2⟩ := h.get (i := j) (by simpa using e)
    exact ⟨x, by simpa using e1, e2⟩
theorem E1.ixT {ds : List Dat} {i : Int} {d : Dat} (ha : E1 p K ta τ (.dat (.tuple ds))) (hb : E1 p K tb τ (.dat (.int i))) (h : atI ds i = some d) : E1 p K (tOp (rIxT K) ta tb) τ (.dat d) :=
  E1.op2 ha hb fun W H0 H x y Q o0 o r1 r2 q => by
    cases r2.int_inv
    cases r1 with
    | tup h1 h2 =>
      obtain ⟨x, e1, e2⟩ := atI_dz h2 h
      exact ⟨_, _, i, x, rfl, rfl, h1, e1, q _ H Ev.refl o e2⟩
theorem E1.ixL {ds : List Dat} {i : Int} {d : Dat} (ha : E1 p K ta τ (.vw ds)) (hb : E1 p K tb τ (.dat (.int i))) (h : atI ds i = some d) : E1 p K (tOp (rIxL K) ta tb) τ (.dat d) :=
  E1.op2 ha hb fun W H0 H x y Q o0 o r1 r2 q => by
    cases r2.int_inv
    obtain ⟨a, vs, rfl, h1, h2⟩ := r1
    obtain ⟨x, e1, e2⟩ := atI_dz h2 h
    exact ⟨_, _, i, x, rfl, rfl, h1.sq, e1, q _ H Ev.refl o e2⟩
theorem A1.nil : A1 p K tNil τ [] := fun W L σ H Q rs o q => q [] H _ rfl Ev.refl o .nil
theorem A.cons {C1 : Sl -> Prop} {C2 : Sl -> List Sl -> Prop} {C : List Sl -> Prop} (ha : E p K te τ C1) (hr : ∀ s, C1 s -> A p K tas τ (C2 s)) (m : ∀ s ss, C1 s -> C2 s ss -> C (s :: ss)) : A p K (tCons te tas) τ C := fun W L σ H Q rs o q =>
  ha W L σ H _ rs o fun x H1 s c1 e1 o1 rv1 => hr s c1 W L σ H1 _ (rs.ev e1 o.pw) o1 fun xs H2 ss c2 e2 o2 rv2 => q _ H2 _ (m s ss c1 c2) (e1.trans e2) o2 (.cons (rv1.ev e2 o1 o) (rv2.base e1 o1))
theorem A1.cons {ss : List Sl} (ha : E1 p K te τ s) (hr : A1 p K tas τ ss) : A1 p K (tCons te tas) τ (s :: ss) := A.cons (C2 := fun _ x => ss = x) ha (fun _ _ => hr) fun s ss h1 h2 => by rw [h1, h2]
theorem Rvs.dats {ds : List Dat} {vs : List V} (h : Rvs p W K H0 H vs (ds.map .dat)) : Dzs (fun a => ¬ W a) K H vs ds := by
  induction ds generalizing vs with
  | nil => cases h; exact .nil
  | cons d r ih =>
    cases h with
    | cons a t => exact .cons a (ih t)
theorem Rvs.len {ss : List Sl} {vs : List V} (h : Rvs p W K H0 H vs ss) : vs.length = ss.length := by
  induction h with
  | nil => rfl
  | cons _ _ ih => rw [List.length_cons, List.length_cons, ih]
theorem E1.tup {ds : List Dat} (h : A1 p K tas τ (ds.map .dat)) (hz : ds.length <= sizeLine) : E1 p K (tTup tas) τ (.dat (.tuple ds)) := fun W L σ H Q rs o q =>
  h W L σ H _ rs o fun vs H1 ss e e1 o1 rv => by
    subst e
    refine ⟨by rw [rv.len, List.length_map]; exact hz, fun a ha => ?_⟩
    have s1 := Same.new ha (.tup vs)
    exact q _ _ _ rfl (e1.trans (Ev.of s1)) (o1.same s1) (.tup (SqT.of upd_same) (rv.dats.ev (W := Pp p) (Ev.of s1) o1.nw))
theorem E1.lst {ds : List Dat} (h : A1 p K tas τ (ds.map .dat)) (hz : ds.length <= sizeLine) : E1 p K (tLst tas) τ (.own ds) := fun W L σ H Q rs o q =>
  h W L σ H _ rs o fun vs H1 ss e e1 o1 rv => by
    subst e
    refine ⟨by rw [rv.len, List.length_map]; exact hz, fun a ha => ?_⟩
    have s1 := Same.new ha (.lst vs)
    exact q _ _ _ rfl (e1.trans (Ev.of s1)) (o1.same s1) ⟨a, vs, rfl, o1.back e1 ha, upd_same, rv.dats.ev (W := Pp p) (Ev.of s1) o1.nw⟩
theorem E1.to {s' : Sl} (h : E1 p K te τ s) (e : s = s') : E1 p K te τ s' := e ▸ h
theorem T1.test {b : Bool} (h : E1 p K te τ (.dat (.bool b))) : T1 p K (tTest te) τ b := fun W L σ H Q rs o q => h W L σ H _ rs o fun v H' s e e1 o1 rv => by
  subst e; cases rv.bl_inv; exact ⟨b, rfl, q b H' rfl e1 o1⟩
theorem T1.val {b : Bool} (h : E1 p K te τ (.dat (.bool b))) : T1 p K (tB te) τ b := fun W L σ H Q rs o q => h W L σ H _ rs o fun v H' s e e1 o1 rv => by
  subst e; cases rv.bl_inv; exact ⟨b, rfl, q b H' rfl e1 o1⟩
theorem T1.not {tt : TT} {b : Bool} (h : T1 p K tt τ b) : T1 p K (tNot tt) τ (!b) := fun W L σ H Q rs o q => h W L σ H _ rs o fun v H' e e1 o1 => by
  subst e; exact q _ H' rfl e1 o1
theorem T.and {tt tu : TT} {C D : Bool -> Prop} (h : T p K tt τ C) (ht : C true -> T p K tu τ D) (hf : C false -> D false) : T p K (tAnd tt tu) τ D := fun W L σ H Q rs o q => h W L σ H _ rs o fun v H' c e1 o1 => by
  cases v with
  | true => rw [if_pos rfl]; exact ht c W L σ H' _ (rs.ev e1 o.pw) o1 fun b H2 d e2 => q b H2 d (e1.trans e2)
  | false => rw [if_neg (by decide)]; exact q _ H' (hf c) e1 o1
theorem T.or {tt tu : TT} {C D : Bool -> Prop} (h : T p K tt τ C) (ht : C true -> D true) (hf : C false -> T p K tu τ D) : T p K (tOr tt tu) τ D := fun W L σ H Q rs o q => h W L σ H _ rs o fun v H' c e1 o1 => by
  cases v with
  | false => rw [if_neg (by decide)]; exact hf c W L σ H' _ (rs.ev e1 o.pw) o1 fun b H2 d e2 => q b H2 d (e1.trans e2)
  | true => rw [if_pos rfl]; exact q _ H' (ht c) e1 o1
theorem T1.orF {tt tu : TT} (h : T1 p K tt τ false) (h2 : T1 p K tu τ false) : T1 p K (tOr tt tu) τ false := T.or h (fun z => by cases z) fun _ => h2
theorem T1.and1 {tt tu : TT} {b c : Bool} (h : T1 p K tt τ b) (h2 : T1 p K tu τ c) : T1 p K (tAnd tt tu) τ (b && c) := T.and h (fun z => by rw [z]; exact h2) fun z => by rw [z]; rfl
end
end D
end
section
namespace D
open PySem L2 K0
open PySem.W (Dat)
noncomputable def Rr (p : Option Addr) (W : Addr -> Prop) (K : PySem.W.Frag) (L : List Addr) (H H' : Hp) (v : V) : Sl -> Prop
  | .own ds => ∃ a vs, v = .ref a /\ (a ∈ L \/ H a = none) /\ H' a = some (.lst vs) /\ Dzs (fun a => ¬ W a) K H' vs ds
  | s => Rv p W K H H' v s
section
variable (p : Option Addr) (K : PySem.W.Frag)
noncomputable def S (ts : TS) (τ : List Sl) (nx : List Sl -> Prop) (rt : Sl -> Prop) : Prop := ∀ (W : Addr -> Prop) (L : List Addr) (σ : St) (H : Hp) (D : Ends), Rs p W K H L σ τ -> Ok p W H ->
  (∀ (W' : Addr -> Prop) (L' : List Addr) σ' H' τ', nx τ' -> Ev W H H' -> Ok p W' H' -> (∀ a, W a -> ∃ ys, H' a = some (.lst ys)) -> (∀ a, W' a -> W a \/ H a = none) -> (∀ a, a ∈ L' -> a ∈ L \/ H a = none) -> Rs p W' K H' L' σ' τ' -> D.nx σ' H') ->
  (∀ (W' : Addr -> Prop) H' v s, rt s -> Ev W H H' -> Ok p W' H' -> (∀ a, W a -> ∃ ys, H' a = some (.lst ys)) -> (∀ a, W' a -> W a \/ H a = none) -> Rr p W' K L H H' v s -> D.rt v H') -> ts D σ H
end
section
variable {p : Option Addr} {K : PySem.W.Frag} {W : Addr -> Prop} {L : List Addr} {σ : St} {H H0 H1 H2 : Hp} {τ : List Sl} {te : TE} {v : V} {s : Sl} {nx : List Sl -> Prop} {rt : Sl -> Prop} {t u : TS}
theorem Rv.rr (h : Rv p W K H0 H v s) : Rr p W K L H0 H v s := by
  cases s with
  | own ds => obtain ⟨a, vs, e, h1, h2⟩ := h; exact ⟨a, vs, e, .inr h1, h2⟩
  | _ => exact h
theorem Rr.base {L' : List Addr} (h : Rr p W K L' H1 H v s) (hn : ∀ a, H1 a = none -> H0 a = none) (hl : ∀ a, a ∈ L' -> a ∈ L \/ H0 a = none) : Rr p W K L H0 H v s := by
  cases s with
  | own ds => obtain ⟨a, vs, e, h1, h2⟩ := h; exact ⟨a, vs, e, h1.elim (hl a) fun z => .inr (hn a z), h2⟩
  | _ => exact h
theorem Ev.ofP (e : Ev (Pp p) H H1) (o : Ok p W H) : Ev W H H1 := e.mono o.pw
theorem Ev.chain {W W' : Addr -> Prop} (e : Ev W H H1) (e2 : Ev W' H1 H2) (n : ∀ a, W' a -> W a \/ H a = none) : Ev W H H2 := ⟨fun b o nb h => e2.keep b o (fun z => by
  rcases n b z with y | y
  . exact nb y
  . rw [h] at y; cases y) (e.keep b o nb h), e.tm.trans e2.tm⟩
theorem Ev.none (e : Ev W H H1) (al : ∀ a, W a -> ∃ ys, H1 a = some (.lst ys)) {a : Addr} (h : H1 a = none) : H a = none := by
  cases q : H a with
  | none => rfl
  | some u =>
    by_cases z : W a
    . obtain ⟨ys, e2⟩ := al a z; rw [h] at e2; cases e2
    . rw [e.keep _ _ z q] at h; cases h
theorem al_chain {W W1 : Addr -> Prop} (w1 : ∀ a, W a -> ∃ ys, H1 a = some (.lst ys)) (w2 : ∀ a, W1 a -> ∃ ys, H2 a = some (.lst ys)) (e2 : Ev W1 H1 H2) : ∀ a, W a -> ∃ ys, H2 a = some (.lst ys) := fun a ha => by
  by_cases z : W1 a
  . exact w2 a z
  . obtain ⟨ys, h⟩ := w1 a ha; exact ⟨ys, e2.keep _ _ z h⟩
theorem S.seq {M : List Sl -> Prop} (h1 : S p K t τ M rt) (h2 : ∀ τ', M τ' -> S p K u τ' nx rt) : S p K (tSeq t u) τ nx rt := fun W L σ H D r o q1 q2 =>
  h1 W L σ H _ r o (fun W1 L1 σ1 H1 τ1 m e1 o1 w1 n1 l1 r1 => by
    have hn : ∀ a, H1 a = none -> H a = none := fun a ha => e1.none w1 ha
    exact h2 τ1 m W1 L1 σ1 H1 D r1 o1 (fun W2 L2 σ2 H2 τ2 c e2 o2 w2 n2 l2 r2 => q1 W2 L2 σ2 H2 τ2 c (e1.chain e2 n1) o2 (al_chain w1 w2 e2)
        (fun a ha => (n2 a ha).elim (n1 a) fun z => .inr (hn a z)) (fun a ha => (l2 a ha).elim (l1 a) fun z => .inr (hn a z)) r2)
      fun W2 H2 v s c e2 o2 w2 n2 rv => q2 W2 H2 v s c (e1.chain e2 n1) o2 (al_chain w1 w2 e2) (fun a ha => (n2 a ha).elim (n1 a) fun z => .inr (hn a z)) (rv.base hn l1)) q2
theorem S.next (h : nx τ) : S p K tNext τ nx rt := fun W L σ H D r o q1 q2 => q1 W L σ H τ h Ev.refl o o.al (fun _ h => .inl h) (fun _ h => .inl h) r
theorem S.ret {C : Sl -> Prop} (h : E p K te τ C) (m : ∀ s, C s -> rt s) : S p K (tRet te) τ nx rt := fun W L σ H D r o q1 q2 => h W L σ H _ r o fun v H' s c e o' rv => q2 W H' v s (m s c) (e.ofP o) o' o'.al (fun _ h => .inl h) rv.rr
theorem S.ret1 (h : E1 p K te τ s) (m : rt s) : S p K (tRet te) τ nx rt := S.ret h fun x e => e ▸ m
theorem S.iff {tc : TT} {C : Bool -> Prop} (h : T p K tc τ C) (ht : C true -> S p K t τ nx rt) (hf : C false -> S p K u τ nx rt) : S p K (tIfS tc t u) τ nx rt := fun W L σ H D r o q1 q2 => h W L σ H _ r o fun b H1 c e o1 => by
  have e1 := e.ofP o
  have hn : ∀ a, H1 a = none -> H a = none := fun a ha => e1.none (fun a h => o1.al a h) ha
  have go : ∀ {t : TS}, S p K t τ nx rt -> t D σ H1 := fun h => h W L σ H1 D (r.ev e o.pw) o1 (fun W2 L2 σ2 H2 τ2 c e2 o2 w2 n2 l2 r2 => q1 W2 L2 σ2 H2 τ2 c (e1.trans e2) o2 (al_chain o1.al w2 e2) (fun a ha => (n2 a ha).elim .inl fun z => .inr (hn a z)) (fun a ha => (l2 a ha).elim .inl fun z => .inr (hn a z)) r2)
      fun W2 H2 v s c e2 o2 w2 n2 rv => q2 W2 H2 v s c (e1.trans e2) o2 (al_chain o1.al w2 e2) (fun a ha => (n2 a ha).elim .inl fun z => .inr (hn a z)) (rv.base hn fun _ h => .inl h)
  cases b with
  | true => rw [if_pos rfl]; exact go (ht c)
  | false => rw [if_neg (by decide)]; exact go (hf c)
theorem S.if1 {tc : TT} {b : Bool} (h : T1 p K tc τ b) (ht : b = true -> S p K t τ nx rt) (hf : b = false -> S p K u τ nx rt) : S p K (tIfS tc t u) τ nx rt := S.iff h ht hf
theorem S.ifF {tc : TT} (h : T1 p K tc τ false) (hf : S p K u τ nx rt) : S p K (tIfS tc t u) τ nx rt := S.iff h (fun z => by cases z) fun _ => hf
theorem S.ifs {tc : TT} {b : Bool} (h : T1 p K tc τ b) (ht : b = true -> S p K t τ (fun τ' => S p K u τ' nx rt) rt) (hf : b = false -> S p K u τ nx rt) : S p K (tSeq (tIfS tc t tNext) u) τ nx rt :=
  S.seq (M := fun τ' => S p K u τ' nx rt) (S.if1 h ht fun z => S.next (hf z)) fun _ h => h
theorem S.ifsF {tc : TT} (h : T1 p K tc τ false) (hf : S p K u τ nx rt) : S p K (tSeq (tIfS tc t tNext) u) τ nx rt := S.ifs h (fun z => by cases z) fun _ => hf
noncomputable def flat : Sl -> Bool
  | .own _ => false
  | .vw _ => false
  | _ => true
theorem S.asg {C : Sl -> Prop} {i : Nat} (h : E p K te τ C) (hf : ∀ s, C s -> flat s = true) (m : ∀ s, C s -> nx (τ.set i s)) : S p K (tAsg te (gName i)) τ nx rt := fun W L σ H D r o q1 q2 => h W L σ H _ r o fun v H1 s c e o1 rv => by
  have z := hf s c
  obtain ⟨L', l, r'⟩ := (r.ev e o.pw).set (v := v) (s := s) (by
    cases s with
    | un => exact .inl rfl
    | dat d => exact .inr (.inl ⟨d, rfl, rv⟩)
    | pu => exact .inr (.inr ⟨rfl, rv⟩)
    | own ds => cases z
    | vw ds => cases z) i
  exact q1 W L' _ H1 _ (m s c) (e.ofP o) o1 o1.al (fun _ h => .inl h) (fun a ha => .inl (l a ha)) r'
theorem S.letC {C : Sl -> Prop} {i : Nat} (h : E p K te τ C) (hf : ∀ s, C s -> flat s = true) (m : ∀ s, C s -> S p K u (τ.set i s) nx rt) : S p K (tSeq (tAsg te (gName i)) u) τ nx rt :=
  S.seq (M := fun τ' => ∃ s, C s /\ τ' = τ.set i s) (S.asg h hf fun s c => ⟨s, c, rfl⟩) fun τ' ⟨s, c, e⟩ => e ▸ m s c
theorem S.let1 {i : Nat} {τ' : List Sl} (h : E1 p K te τ s) (m : S p K u τ' nx rt) (e : τ.set i s = τ' := by rfl) (hf : flat s = true := by rfl) : S p K (tSeq (tAsg te (gName i)) u) τ nx rt :=
  S.letC h (fun x y => y ▸ hf) fun x y => by subst y; rw [e]; exact m
theorem S.asg1 {i : Nat} {τ' : List Sl} (h : E1 p K te τ s) (m : nx τ') (e : τ.set i s = τ' := by rfl) (hf : flat s = true := by rfl) : S p K (tAsg te (gName i)) τ nx rt :=
  S.asg h (fun x y => y ▸ hf) fun x y => by subst y; rw [e]; exact m
theorem Rs.setO (r : Rs p W K H L σ τ) {a : Addr} {vs : List V} {ds : List Dat} (wa : W a) (np : p ≠ some a) (nl : a ∉ L) (h : H a = some (.lst vs)) (z : Dzs (fun a => ¬ W a) K H vs ds) : ∀ (i : Nat), ∃ L', (∀ b, b ∈ L' -> b = a \/ b ∈ L) /\ Rs p W K H L' (σ.set i (some (.ref a))) (τ.set i (.own ds)) := by
  induction r with
  | nil => intro i; exact ⟨[], fun _ h => .inr h, .nil⟩
  | un r ih =>
    intro i
    match i with
    | 0 => exact ⟨_, fun b hb => by simpa using hb, .own wa np nl h z r⟩
    | i + 1 => obtain ⟨L', h1, h2⟩ := ih nl i; exact ⟨L', h1, .un h2⟩
  | dat y r ih =>
    intro i
    match i with
    | 0 => exact ⟨_, fun b hb => by simpa using hb, .own wa np nl h z r⟩
    | i + 1 => obtain ⟨L', h1, h2⟩ := ih nl i; exact ⟨L', h1, .dat y h2⟩
  | pu y r ih =>
    intro i
    match i with
    | 0 => exact ⟨_, fun b hb => by simpa using hb, .own wa np nl h z r⟩
    | i + 1 => obtain ⟨L', h1, h2⟩ := ih nl i; exact ⟨L', h1, .pu y h2⟩
  | own g1 g2 g3 g4 g5 r ih =>
    intro i
    have nl' := fun y => nl (List.mem_cons_of_mem _ y)
    match i with
    | 0 => exact ⟨_, fun b hb => (List.mem_cons.mp hb).imp id (List.mem_cons_of_mem _), .own wa np nl' h z r⟩
    | i + 1 =>
      obtain ⟨L', h1, h2⟩ := ih nl' i
      refine ⟨_ :: L', fun b hb => ?_, .own g1 g2 (fun y => ?_) g4 g5 h2⟩
      . rcases List.mem_cons.mp hb with rfl | hb
        . exact .inr List.mem_cons_self
        . exact (h1 b hb).imp id (List.mem_cons_of_mem _)
      . rcases h1 _ y with y | y
        . exact nl (y ▸ List.mem_cons_self)
        . exact g3 y
theorem Rs.own_in (r : Rs p W K H L σ τ) : ∀ a, a ∈ L -> ∃ vs, H a = some (.lst vs) := by
  induction r with
  | nil => intro a h; cases h
  | un _ ih => exact ih
  | dat _ _ ih => exact ih
  | pu _ _ ih => exact ih
  | own _ _ _ h4 _ _ ih => intro a h; rcases List.mem_cons.mp h with rfl | h
                           . exact ⟨_, h4⟩
                           . exact ih a h
theorem Dzs.wide {W W' : Addr -> Prop} {vs : List V} {ds : List Dat} (h : Dzs (fun a => ¬ W a) K H vs ds) (n : ∀ a, W' a -> ¬ W a -> H a = none) : Dzs (fun a => ¬ W' a) K H vs ds := by
  exact go n h
where
  go {W W' : Addr -> Prop} (n : ∀ a, W' a -> ¬ W a -> H a = none) : ∀ {vs : List V} {ds : List Dat}, Dzs (fun a => ¬ W a) K H vs ds -> Dzs (fun a => ¬ W' a) K H vs ds
    | _, _, .nil => .nil
    | _, _, .cons h r => .cons (go1 n h) (go n r)
  go1 {W W' : Addr -> Prop} (n : ∀ a, W' a -> ¬ W a -> H a = none) : ∀ {v : V} {d : Dat}, Dz (fun a => ¬ W a) K H v d -> Dz (fun a => ¬ W' a) K H v d
    | _, _, .none => .none
    | _, _, .bool b => .bool b
    | _, _, .int i => .int i
    | _, _, .str x => .str x
    | _, _, .tup h r => .tup h (go n r)
    | _, _, .lst h r => .lst (by
        rcases h with ⟨nn, h⟩ | h
        . refine .inl ⟨fun z => ?_, h⟩
          have e1 := n _ z nn
          rcases h with h | ⟨o, h⟩
          . rw [e1] at h; cases h
          . rw [e1] at h; cases h
        . exact .inr h) (go n r)
theorem Dzs.old {W W' : Addr -> Prop} {H H' : Hp} (e : Ev W H H') (n : ∀ a, W' a -> W a \/ H a = none) : ∀ {vs : List V} {ds : List Dat}, Dzs (fun a => ¬ W a) K H vs ds -> Dzs (fun a => ¬ W' a) K H' vs ds
    | _, _, .nil => .nil
    | _, _, .cons h r => .cons (go1 h) (Dzs.old e n r)
where
  go1 : ∀ {v : V} {d : Dat}, Dz (fun a => ¬ W a) K H v d -> Dz (fun a => ¬ W' a) K H' v d
    | _, _, .none => .none
    | _, _, .bool b => .bool b
    | _, _, .int i => .int i
    | _, _, .str x => .str x
    | _, _, .tup h r => .tup (e.tm _ _ _ h) (Dzs.old e n r)
    | _, _, .lst h r => .lst (by
        rcases h with ⟨nn, h⟩ | h
        . refine .inl ⟨fun z => ?_, ?_⟩
          . have e1 := (n _ z).resolve_left nn
            rcases h with h | ⟨o, h⟩
            . rw [e1] at h; cases h
            . rw [e1] at h; cases h
          . exact h.imp (e.keep _ _ nn) fun ⟨o, h⟩ => ⟨o, e.keep _ _ nn h⟩
        . exact .inr h) (Dzs.old e n r)
theorem S.letOC {C : List Dat -> Prop} {i : Nat} (h : E p K te τ (fun s => ∃ ds, s = .own ds /\ noLs ds = true /\ C ds)) (m : ∀ ds, C ds -> S p K u (τ.set i (.own ds)) nx rt) : S p K (tSeq (tAsg te (gName i)) u) τ nx rt := by
  refine S.seq (M := fun τ' => ∃ ds, C ds /\ τ' = τ.set i (.own ds)) (fun W L σ H D r o q1 q2 => ?_) fun τ' ⟨ds, c, e⟩ => e ▸ m ds c
  refine h W L σ H _ r o fun v H1 s c e o1 rv => ?_
  obtain ⟨ds, rfl, nl, cd⟩ := c
  obtain ⟨a, vs, rfl, h1, h2, h3⟩ := rv
  have nw := o.fresh h1
  have wid : ∀ b, (W b \/ b = a) -> ¬ W b -> H b = none := fun b hb nb => (hb.resolve_left nb) ▸ h1
  have r1 : Rs p (fun b => W b \/ b = a) K H1 L σ τ := (r.wide (fun _ h => .inl h) wid).ev e fun q hq => .inl (o.pw q hq)
  have al : a ∉ L := fun z => by obtain ⟨_, y⟩ := r.own_in a z; rw [h1] at y; cases y
  obtain ⟨L', l, r2⟩ := r1.setO (.inr rfl) (o.np h1) al h2 (h3.free nl) i
  refine q1 _ L' _ H1 _ ⟨ds, cd, rfl⟩ (e.ofP o) ⟨fun q hq => ⟨(o1.pu q hq).1, .inl (o1.pw q hq)⟩, fun b hb => ?_⟩ o1.al (fun b hb => hb.imp id fun (z : b = a) => by rw [z]; exact h1) (fun b hb => ?_) r2
  . rcases hb with hb | rfl
    . exact o1.al b hb
    . exact ⟨_, h2⟩
  . rcases l b hb with rfl | hb
    . exact .inr h1
    . exact .inl hb
theorem S.letO {ds : List Dat} {i : Nat} {τ' : List Sl} (h : E1 p K te τ (.own ds)) (nl : noLs ds = true) (m : S p K u τ' nx rt) (e : τ.set i (.own ds) = τ' := by rfl) : S p K (tSeq (tAsg te (gName i)) u) τ nx rt :=
  S.letOC (C := fun x => ds = x) (E.mono h fun s hs => ⟨ds, hs.symm, nl, rfl⟩) fun x hx => by subst hx; rw [e]; exact m
theorem Rs.chg (r : Rs p W K H L σ τ) {a : Addr} {vs0 vs : List V} (ha : W a) (h0 : H a = some (.lst vs0)) : a ∉ L -> Rs p W K (upd H a (.lst vs)) L σ τ := by
  have ev : Ev (fun b => b = a) H (upd H a (.lst vs)) := ⟨fun b o n h => by rw [upd_ne n]; exact h, Tm.lst h0 _⟩
  have nw : ∀ b, ¬ W b -> ¬ b = a := fun b n z => n (z ▸ ha)
  induction r with
  | nil => intro _; exact .nil
  | un _ ih => intro h; exact .un (ih h)
  | dat h _ ih => intro n; exact .dat (h.ev ev nw) (ih n)
  | pu h _ ih => intro n; exact .pu h (ih n)
  | own h1 h2 h3 h4 h5 _ ih =>
    intro n
    refine .own h1 h2 h3 ?_ (h5.ev ev nw) (ih fun z => n (List.mem_cons_of_mem _ z))
    rw [upd_ne (fun z => n (by rw [<- z]; exact List.mem_cons_self))]; exact h4
theorem Rs.chgO {a : Addr} {vs0 vs : List V} {ds : List Dat} (ha : W a) (h0 : H a = some (.lst vs0)) (hz : Dzs (fun a => ¬ W a) K (upd H a (.lst vs)) vs ds) : ∀ {L : List Addr} {σ : St} {τ : List Sl}, Rs p W K H L σ τ -> ∀ {i : Nat} {ds0 : List Dat}, τ[i]? = some (.own ds0) -> σ[i]? = some (some (.ref a)) -> Rs p W K (upd H a (.lst vs)) L σ (τ.set i (.own ds)) := by
  have ev : Ev (fun b => b = a) H (upd H a (.lst vs)) := ⟨fun b o n h => by rw [upd_ne n]; exact h, Tm.lst h0 _⟩
  have nw : ∀ b, ¬ W b -> ¬ b = a := fun b n z => n (z ▸ ha)
  intro L σ τ r
  induction r with
  | nil => intro i ds0 h; simp at h
  | un r ih =>
    intro i ds0 h e
    match i, h, e with
    | 0, h, _ => simp at h
    | i + 1, h, e => exact .un (ih (i := i) (by simpa using h) (by simpa using e))
  | dat y r ih =>
    intro i ds0 h e
    match i, h, e with
    | 0, h, _ => simp at h
    | i + 1, h, e => exact .dat (y.ev ev nw) (ih (i := i) (by simpa using h) (by simpa using e))
  | pu y r ih =>
    intro i ds0 h e
    match i, h, e with
    | 0, h, _ => simp at h
    | i + 1, h, e => exact .pu y (ih (i := i) (by simpa using h) (by simpa using e))
  | own h1 h2 h3 h4 h5 r ih =>
    intro i ds0 h e
    match i, h, e with
    | 0, h, e =>
      simp at e; subst e
      exact .own h1 h2 h3 upd_same hz (r.chg h1 h4 h3)
    | i + 1, h, e =>
      have e' : _ := e
      simp only [List.getElem?_cons_succ] at e'
      obtain ⟨a', vs', g1, g2, g3, g4, g5, g6⟩ := r.get_own (i := i) (by simpa using h)
      rw [e'] at g1; cases g1
      refine .own h1 h2 h3 ?_ (h5.ev ev nw) (ih (i := i) (by simpa using h) e')
      rw [upd_ne (fun z => h3 (by rw [z]; exact g4))]; exact h4
theorem S.append {i : Nat} {ds : List Dat} {C : Dat -> Prop} (h : τ[i]? = some (.own ds)) (he : E p K te τ (fun s => ∃ d, s = .dat d /\ noL d = true /\ C d)) (hz : ds.length < sizeLine) (m : ∀ d, C d -> nx (τ.set i (.own (ds ++ [d])))) : S p K (tDrop (tBM K "list" rAppend (tVar i) (tCons te tNil))) τ nx rt := fun W L σ H D r o q1 q2 => by
  obtain ⟨a, vs, e, w, n, l, h1, z⟩ := r.get_own h
  refine ⟨_, e, .inl ⟨rfl, _, SqL.of h1⟩, he W L σ H _ r o fun v H1 s c e1 o1 rv => ?_⟩
  obtain ⟨d, rfl, nl, cd⟩ := c
  have r1 := r.ev e1 o.pw
  obtain ⟨a', vs', e', w', n', l', h1', z'⟩ := r1.get_own h
  rw [e] at e'; cases e'
  have ev : Ev (fun b => b = a) H1 (upd H1 a (.lst (vs' ++ [v]))) := ⟨fun b o n h => by rw [upd_ne n]; exact h, Tm.lst h1' _⟩
  have nw : ∀ b, ¬ W b -> ¬ b = a := fun b n z => n (z ▸ w)
  refine ⟨a, vs', v, rfl, rfl, h1', by rw [z'.len]; exact hz, ?_⟩
  refine q1 W L σ _ _ (m d cd) ((e1.ofP o).trans (ev.mono fun b hb => hb ▸ w)) ⟨fun q hq => ⟨?_, o1.pw q hq⟩, fun b hb => ?_⟩ ?_ (fun _ h => .inl h) (fun _ h => .inl h) (Rs.chgO w h1' ((z'.app (.cons rv .nil)).ev ev nw) r1 h e)
  . obtain ⟨x, y, u⟩ := (o1.pu q hq).1
    exact ⟨x, y, by rw [upd_ne (fun z => n' (by rw [<- z]; exact hq))]; exact u⟩
  all_goals
    first
    | (by_cases z : b = a
       . subst z; exact ⟨_, upd_same⟩
       . rw [upd_ne z]; exact o1.al b hb)
    | (intro b hb
       by_cases z : b = a
       . subst z; exact ⟨_, upd_same⟩
       . rw [upd_ne z]; exact o1.al b hb)
theorem S.append1 {i : Nat} {ds : List Dat} {d : Dat} {τ' : List Sl} (h : τ[i]? = some (.own ds)) (he : E1 p K te τ (.dat d)) (nl : noL d = true) (hz : ds.length < sizeLine) (m : nx τ') (e : τ.set i (.own (ds ++ [d])) = τ' := by rfl) : S p K (tDrop (tBM K "list" rAppend (tVar i) (tCons te tNil))) τ nx rt :=
  S.append (C := fun x => d = x) h (E.mono he fun s hs => ⟨d, hs.symm, nl, rfl⟩) hz fun x hx => by subst hx; rw [e]; exact m
end
end D
end
section
namespace D
open PySem L2 K0
open PySem.W (Dat)
noncomputable def Jd (W : Addr -> Prop) (K : PySem.W.Frag) (J : It) (H : Hp) (ds : List Dat) : Prop := ∀ (W' : Addr -> Prop) (H' : Hp), Ev W H H' -> (∀ a, W' a -> W a \/ H a = none) -> J.stop ds.length H' /\ ∀ i d, ds[i]? = some d -> J.go i H' /\ ∀ y H2, J.yld i H' y H2 -> Same H' H2 /\ Dz (fun a => ¬ W' a) K H2 y d
section
variable (p : Option Addr) (K : PySem.W.Frag)
noncomputable def Wk (wi : TI) (τ : List Sl) (ds : List Dat) : Prop := ∀ (W : Addr -> Prop) (L : List Addr) (σ : St) (H : Hp) (R : It -> Hp -> Prop), Rs p W K H L σ τ -> Ok p W H -> (∀ J H1, Ev (Pp p) H H1 -> Ok p W H1 -> Jd W K J H1 ds -> R J H1) -> wi σ H R
noncomputable def Gd (g : TG) (d : Dat) (τ τ' : List Sl) : Prop := ∀ (W : Addr -> Prop) (L : List Addr) (σ : St) (H : Hp) (v : V) (Q : St -> Hp -> Prop), Rs p W K H L σ τ -> Dz (fun a => ¬ W a) K H v d -> (∀ L' σ', (∀ a, a ∈ L' -> a ∈ L) -> Rs p W K H L' σ' τ' -> Q σ' H) -> g v σ H Q
end
section
variable {p : Option Addr} {K : PySem.W.Frag} {W : Addr -> Prop} {L : List Addr} {σ : St} {H H1 H2 : Hp} {τ τ' : List Sl} {tb te : TE} {tas : TA} {v : V} {s : Sl} {nx : List Sl -> Prop} {rt : Sl -> Prop} {t u : TS} {ds : List Dat} {wi : TI}
theorem Wk.tup (h : E1 p K te τ (.dat (.tuple ds))) : Wk p K (iTup K te) τ ds := fun W L σ H R r o q => h W L σ H _ r o fun v H1 s e e1 o1 rv => by
  subst e
  cases rv with
  | tup h1 h2 =>
    rename_i a xs
    refine ⟨a, rfl, ⟨xs, h1⟩, q _ H1 e1 o1 fun W' H' ev n => ?_⟩
    have h1' := ev.tm _ _ _ h1
    have h2' := Dzs.old ev n h2
    refine ⟨⟨xs, h1', by rw [h2.len]; exact Nat.le_refl _⟩, fun i d hd => ?_⟩
    obtain ⟨x, ex, zx⟩ := h2'.get hd
    exact ⟨⟨xs, x, h1', ex⟩, fun y H2 ⟨e, q⟩ => by
      subst e
      have := q xs h1'
      rw [ex] at this; cases this
      exact ⟨Same.refl _, zx⟩⟩
theorem Wk.lst (h : E1 p K te τ (.dat (.list ds))) : Wk p K (iList K te) τ ds := fun W L σ H R r o q => h W L σ H _ r o fun v H1 s e e1 o1 rv => by
  subst e
  cases rv with
  | lst h1 h2 =>
    rename_i a xs
    refine ⟨a, rfl, ⟨xs, h1.sq⟩, q _ H1 e1 o1 fun W' H' ev n => ?_⟩
    have h1' : SqL K H' a xs := by
      rcases h1 with ⟨nn, h1⟩ | h1
      . exact .inl (h1.imp (ev.keep _ _ nn) fun ⟨o, h⟩ => ⟨o, ev.keep _ _ nn h⟩)
      . exact SqN.sq (N := fun _ => True) (.inr h1)
    have h2' := Dzs.old ev n h2
    refine ⟨⟨xs, h1', by rw [h2.len]; exact Nat.le_refl _⟩, fun i d hd => ?_⟩
    obtain ⟨x, ex, zx⟩ := h2'.get hd
    exact ⟨⟨xs, x, h1', ex⟩, fun y H2 ⟨e, q⟩ => by
      subst e
      have := q xs h1'
      rw [ex] at this; cases this
      exact ⟨Same.refl _, zx⟩⟩
noncomputable def rangeD (lo : Int) (n : Nat) : List Dat := (List.range n).map fun (i : Nat) => .int (lo + i)
theorem rangeD_get {lo : Int} {n i : Nat} {d : Dat} (h : (rangeD lo n)[i]? = some d) : i < n /\ d = .int (lo + i) := by
  unfold rangeD at h
  rw [List.getElem?_map] at h
  cases e : (List.range n)[i]? with
  | none => rw [e] at h; cases h
  | some j =>
    rw [e] at h; cases h
    have hi : i < n := by simpa using (List.getElem?_eq_some_iff.mp e).1
    have hj : j = i := by
      have := (List.getElem?_eq_some_iff.mp e).2
      simpa using this.symm
    subst hj
    exact ⟨hi, rfl⟩
theorem rangeD_len {lo : Int} {n : Nat} : (rangeD lo n).length = n := by unfold rangeD; simp
theorem jd_rng {lo : Int} {n : Nat} : Jd W K (Itr lo n) H (rangeD lo n) := fun W' H' ev nn => ⟨by show n <= _; rw [rangeD_len]; exact Nat.le_refl _, fun i d hd => by
  obtain ⟨hi, rfl⟩ := rangeD_get hd
  exact ⟨hi, fun y H2 ⟨e1, e2⟩ => by subst e1 e2; exact ⟨Same.refl _, .int _⟩⟩⟩
theorem Wk.rng {j : Int} {n : Nat} (h : A1 p K tas τ [.dat (.int j)]) (hn : j.toNat = n) (h1 : -(2 ^ 62) <= j := by decide) (h2 : j < 2 ^ 62 := by decide) : Wk p K (iRng1 tas) τ (rangeD 0 n) := fun W L σ H R r o q => h W L σ H _ r o fun vs H1 ss e e1 o1 rv => by
  subst e hn
  cases rv with
  | cons a t =>
    cases t
    cases a.int_inv
    exact ⟨j, rfl, h1, h2, q _ H1 e1 o1 jd_rng⟩
noncomputable def zipD : List Dat -> List Dat -> List Dat := List.zipWith fun x y => .tuple [x, y]
theorem zipD_get : ∀ {xs ys : List Dat} {i : Nat} {d : Dat}, (zipD xs ys)[i]? = some d -> ∃ x y, xs[i]? = some x /\ ys[i]? = some y /\ d = .tuple [x, y] := by
  intro xs ys i d h
  unfold zipD at h
  rw [List.getElem?_zipWith] at h
  cases e1 : xs[i]? with
  | none => rw [e1] at h; simp at h
  | some x =>
    cases e2 : ys[i]? with
    | none => rw [e1, e2] at h; simp at h
    | some y => rw [e1, e2] at h; simp at h; exact ⟨x, y, rfl, rfl, h.symm⟩
theorem Wk.zip {xs ys : List Dat} (h : A1 p K tas τ [.dat (.tuple xs), .dat (.tuple ys)]) (hl : ys.length = xs.length) : Wk p K (iZip K tas) τ (zipD xs ys) := fun W L σ H R r o q => h W L σ H _ r o fun vs H1 ss e e1 o1 rv => by
  subst e
  cases rv with
  | cons a t =>
    cases t with
    | cons b t =>
      cases t
      cases a with
      | tup h1 h2 =>
        cases b with
        | tup h3 h4 =>
          rename_i a1 x1 a2 x2
          refine ⟨a1, a2, rfl, ⟨_, h1⟩, ⟨_, h3⟩, q _ H1 e1 o1 fun W' H' ev n => ?_⟩
          have g1 := ev.tm _ _ _ h1
          have g3 := ev.tm _ _ _ h3
          have g2 := Dzs.old ev n h2
          have g4 := Dzs.old ev n h4
          have ll : (zipD xs ys).length = xs.length := by unfold zipD; rw [List.length_zipWith, hl, Nat.min_self]
          refine ⟨⟨_, g1, by rw [g2.len, ll]; exact Nat.le_refl _, _, g3⟩, fun i d hd => ?_⟩
          obtain ⟨x, y, ex, ey, rfl⟩ := zipD_get hd
          obtain ⟨vx, ux, zx⟩ := g2.get ex
          obtain ⟨vy, uy, zy⟩ := g4.get ey
          refine ⟨⟨_, _, vx, vy, g1, g3, ux, uy⟩, fun z H2 ⟨a, ha, e, q⟩ => ?_⟩
          have := q _ _ _ _ g1 g3 ux uy
          subst this e
          have s := Same.new ha (.tup [vx, vy])
          have e : Ev (fun _ => False) H' (upd H' a (.tup [vx, vy])) := Ev.of s
          exact ⟨s, .tup (SqT.of upd_same) (.cons (zx.ev e fun _ _ h => h) (.cons (zy.ev e fun _ _ h => h) .nil))⟩
theorem Gd.name {i : Nat} {d : Dat} (e : τ.set i (.dat d) = τ' := by rfl) : Gd p K (gName i) d τ τ' := fun W L σ H v Q r z q => by
  obtain ⟨L', l, r'⟩ := r.set (v := v) (s := .dat d) (.inr (.inl ⟨d, rfl, z⟩)) i
  rw [e] at r'
  exact q L' _ l r'
theorem Gd.pair {i j : Nat} {x y : Dat} (e : (τ.set i (.dat x)).set j (.dat y) = τ' := by rfl) : Gd p K (gTup K 2 (gCons (gName i) (gCons (gName j) gNil))) (.tuple [x, y]) τ τ' := fun W L σ H v Q r z q => by
  cases z with
  | tup h1 h2 =>
    cases h2 with
    | cons za t =>
      cases t with
      | cons zb t =>
        cases t
        obtain ⟨L1, l1, r1⟩ := r.set (s := .dat x) (.inr (.inl ⟨x, rfl, za⟩)) i
        obtain ⟨L2, l2, r2⟩ := r1.set (s := .dat y) (.inr (.inl ⟨y, rfl, zb⟩)) j
        rw [e] at r2
        exact ⟨_, _, rfl, h1, rfl, _, _, rfl, _, _, rfl, rfl, q L2 _ (fun a h => l1 a (l2 a h)) r2⟩
theorem Gd.tri {i j k : Nat} {x y z : Dat} (e : ((τ.set i (.dat x)).set j (.dat y)).set k (.dat z) = τ' := by rfl) : Gd p K (gTup K 3 (gCons (gName i) (gCons (gName j) (gCons (gName k) gNil)))) (.tuple [x, y, z]) τ τ' := fun W L σ H v Q r zz q => by
  cases zz with
  | tup h1 h2 =>
    cases h2 with
    | cons za t =>
      cases t with
      | cons zb t =>
        cases t with
        | cons zc t =>
          cases t
          obtain ⟨L1, l1, r1⟩ := r.set (s := .dat x) (.inr (.inl ⟨x, rfl, za⟩)) i
          obtain ⟨L2, l2, r2⟩ := r1.set (s := .dat y) (.inr (.inl ⟨y, rfl, zb⟩)) j
          obtain ⟨L3, l3, r3⟩ := r2.set (s := .dat z) (.inr (.inl ⟨z, rfl, zc⟩)) k
          rw [e] at r3
          exact ⟨_, _, rfl, h1, rfl, _, _, rfl, _, _, rfl, _, _, rfl, rfl, q L3 _ (fun a h => l1 a (l2 a (l3 a h))) r3⟩
theorem S.asgG {g : TG} {d : Dat} (h : E1 p K te τ (.dat d)) (hg : Gd p K g d τ τ') (m : nx τ') : S p K (tAsg te g) τ nx rt := fun W L σ H D r o q1 q2 => h W L σ H _ r o fun v H1 s e e1 o1 rv => by
  subst e
  exact hg W L σ H1 v _ (r.ev e1 o.pw) rv fun L' σ' l r' => q1 W L' σ' H1 _ m (e1.ofP o) o1 o1.al (fun _ h => .inl h) (fun a h => .inl (l a h)) r'
theorem S.letG {g : TG} {d : Dat} (h : E1 p K te τ (.dat d)) (hg : Gd p K g d τ τ') (m : S p K u τ' nx rt) : S p K (tSeq (tAsg te g) u) τ nx rt := S.seq (M := fun x => τ' = x) (S.asgG h hg rfl) fun x e => e ▸ m
theorem S.for {g : TG} {tb : TS} (hw : Wk p K wi τ ds) (I : Nat -> List Sl -> Prop) (h0 : I 0 τ) (turn : ∀ i d τ1, ds[i]? = some d -> I i τ1 -> ∃ τ2, Gd p K g d τ1 τ2 /\ S p K tb τ2 (I (i + 1)) rt) (done : ∀ τ1, I ds.length τ1 -> nx τ1) : S p K (tFor wi g tb) τ nx rt := fun W L σ H D r o q1 q2 => by
  refine hw W L σ H _ r o fun J H1 e1 o1 jd => ?_
  have ew := e1.ofP o
  have hn : ∀ a, H1 a = none -> H a = none := fun a ha => ew.none o1.al ha
  refine ⟨fun i m σ' H' => m = ds.length - i /\ i <= ds.length /\ ∃ (W' : Addr -> Prop) (L' : List Addr) (τ1 : List Sl), I i τ1 /\ Ev W H1 H' /\ Ok p W' H' /\ (∀ a, W a -> ∃ ys, H' a = some (.lst ys)) /\ (∀ a, W' a -> W a \/ H1 a = none) /\ (∀ a, a ∈ L' -> a ∈ L \/ H1 a = none) /\ Rs p W' K H' L' σ' τ1,
    ⟨ds.length, by omega, Nat.zero_le _, W, L, τ, h0, Ev.refl, o1, o1.al, fun _ h => .inl h, fun _ h => .inl h, r.ev e1 o.pw⟩, ?_⟩
  rintro i m σ' H' ⟨rfl, hi, W', L', τ1, hI, ev, ok, al, nn, ll, rs⟩
  obtain ⟨stop, each⟩ := jd W' H' ev nn
  by_cases hlt : i < ds.length
  . have hd : ds[i]? = some ds[i] := by simp [hlt]
    obtain ⟨go, yl⟩ := each i _ hd
    obtain ⟨τ2, hg, hb⟩ := turn i _ τ1 hd hI
    refine .inr ⟨go, fun σ'' H'' => ds.length - (i + 1) = ds.length - (i + 1) /\ i + 1 <= ds.length /\ ∃ (W' : Addr -> Prop) (L' : List Addr) (τ1 : List Sl), I (i + 1) τ1 /\ Ev W H1 H'' /\ Ok p W' H'' /\ (∀ a, W a -> ∃ ys, H'' a = some (.lst ys)) /\ (∀ a, W' a -> W a \/ H1 a = none) /\ (∀ a, a ∈ L' -> a ∈ L \/ H1 a = none) /\ Rs p W' K H'' L' σ'' τ1, fun σ'' H'' h => ⟨_, by omega, h⟩, fun x H2 y => ?_⟩
    obtain ⟨s2, z2⟩ := yl x H2 y
    have e2 : Ev (Pp p) H' H2 := Ev.of s2
    have o2 := ok.same s2
    have ev2 : Ev W H1 H2 := ev.trans (Ev.of s2)
    have al2 : ∀ a, W a -> ∃ ys, H2 a = some (.lst ys) := fun a ha => let ⟨ys, h⟩ := al a ha; ⟨ys, s2 _ _ h⟩
    have hn2 : ∀ a, H2 a = none -> H1 a = none := fun a ha => ev2.none al2 ha
    refine hg W' L' σ' H2 x _ (rs.ev e2 ok.pw) z2 fun L3 σ3 l3 rs3 => ?_
    refine hb W' L3 σ3 H2 _ rs3 o2 (fun W4 L4 σ4 H4 τ4 c e4 o4 w4 n4 l4 r4 => ?_) (fun W4 H4 v s c e4 o4 w4 n4 rv => ?_)
    . exact ⟨rfl, hlt, W4, L4, τ4, c, ev2.chain e4 nn, o4, al_chain al2 w4 e4, fun a ha => (n4 a ha).elim (nn a) fun z => .inr (hn2 a z), fun a ha => (l4 a ha).elim (fun z => ll a (l3 a z)) fun z => .inr (hn2 a z), r4⟩
    . have nn' : ∀ a, W' a -> W a \/ H a = none := fun a ha => (nn a ha).imp id (hn a)
      refine q2 W4 H4 v s c ((ew.trans ev2).chain e4 nn') o4 (al_chain al2 w4 e4) (fun a ha => (n4 a ha).elim (nn' a) fun z => .inr (hn a (hn2 a z))) (rv.base (fun a z => hn a (hn2 a z)) fun a ha => ?_)
      exact (ll a (l3 a ha)).imp id (hn a)
  . have e : i = ds.length := by omega
    subst e
    exact .inl ⟨stop, q1 W' L' σ' H' τ1 (done τ1 hI) (ew.trans ev) ok al (fun a ha => (nn a ha).imp id (hn a)) (fun a ha => (ll a ha).imp id (hn a)) rs⟩
end
end D
end
section
namespace D
open PySem L2 K0
open PySem.W (Dat)
section
variable {p : Option Addr} {K : PySem.W.Frag} {W : Addr -> Prop} {L : List Addr} {σ : St} {H H1 H2 : Hp} {τ : List Sl} {te : TE} {v : V} {s : Sl} {nx : List Sl -> Prop} {t u : TS} {ds : List Dat} {wi : TI} {tt : TT}
noncomputable def Gc (p : Option Addr) (K : PySem.W.Frag) (no : Nat) (g : TG) (d : Dat) (own : List Sl) : Prop := ∀ (W : Addr -> Prop) (L : List Addr) (ρ σ : St) (τ : List Sl) (H : Hp) (v : V) (Q : St -> Hp -> Prop), ρ.length = no -> Rs p W K H L σ τ -> Dz (fun a => ¬ W a) K H v d -> (∀ ρ', ρ'.length = no -> Rs p W K H L (ρ' ++ σ) (own ++ τ) -> Q (ρ' ++ σ) H) -> g v (ρ ++ σ) H Q
theorem Gc.name {d : Dat} : Gc p K 1 (gName 0) d [.dat d] := fun W L ρ σ τ H v Q l r z q => by
  match ρ, l with
  | [o], _ => exact q [some v] rfl (.dat z r)
theorem Gc.pair {x y : Dat} : Gc p K 2 (gPair K) (.tuple [x, y]) [.dat x, .dat y] := fun W L ρ σ τ H v Q l r z q => by
  match ρ, l with
  | [o, o'], _ =>
    cases z with
    | tup h1 h2 =>
      cases h2 with
      | cons za t =>
        cases t with
        | cons zb t =>
          cases t
          exact ⟨_, _, rfl, h1, rfl, _, _, rfl, _, _, rfl, rfl, q [some _, some _] rfl (.dat za (.dat zb r))⟩
theorem Rs.evx {X : Addr -> Prop} {H' : Hp} (r : Rs p W K H L σ τ) (e : Ev X H H') (nx : ∀ a, ¬ W a -> ¬ X a) (no : ∀ a o, H a = some o -> p ≠ some a -> ¬ X a) : Rs p W K H' L σ τ := by
  induction r with
  | nil => exact .nil
  | un _ ih => exact .un ih
  | dat h _ ih => exact .dat (h.ev e nx) ih
  | pu h _ ih => exact .pu h ih
  | own h1 h2 h3 h4 h5 _ ih => exact .own h1 h2 h3 (e.keep _ _ (no _ _ h4 h2) h4) (h5.ev e nx) ih
theorem E.comp {no : Nat} {g : TG} (hw : Wk p K wi τ ds) (own : Dat -> List Sl) (hg : ∀ d, d ∈ ds -> Gc p K no g d (own d)) (kp : Dat -> Bool) (Cd : Dat -> Dat -> Prop) (ht : ∀ d, d ∈ ds -> T1 p K tt (own d ++ τ) (kp d))
    (turn : ∀ d, d ∈ ds -> kp d = true -> E p K te (own d ++ τ) (fun s => ∃ e, s = .dat e /\ Cd d e)) (hz : ds.length <= sizeLine) :
    E p K (tCompB no wi g tt te) τ (fun s => ∃ es, s = .own es /\ es.length = (ds.filter kp).length /\ ∀ (i : Nat) (e : Dat), es[i]? = some e -> ∃ d, (ds.filter kp)[i]? = some d /\ Cd d e) := fun W L σ H Q r o q => by
  refine hw W L σ H _ r o fun J H1 e1 o1 jd => ?_
  intro D hD
  have nD := o1.fresh hD
  have pD := o1.np hD
  have r1 := r.ev e1 o.pw
  have r1' : Rs p (fun b => W b \/ b = D) K H1 L σ τ := r1.wide (fun _ h => .inl h) fun b hb nb => (hb.resolve_left nb) ▸ hD
  refine ⟨fun i m σ' H' => m = ds.length - i /\ i <= ds.length /\ (∃ ρ, ρ.length = no /\ σ' = ρ ++ σ) /\ Ev (fun a => Pp p a \/ a = D) H1 H' /\ (∀ q, p = some q -> Pu H' q) /\ ∃ (vs : List V) (es : List Dat), H' D = some (.lst vs) /\ Dzs (fun b => ¬ (W b \/ b = D)) K H' vs es /\ es.length = ((ds.take i).filter kp).length /\ ∀ (j : Nat) (e : Dat), es[j]? = some e -> ∃ d, ((ds.take i).filter kp)[j]? = some d /\ Cd d e,
    ⟨ds.length, by omega, Nat.zero_le _, ⟨List.replicate no none, by simp, rfl⟩, ⟨fun b u nb h => by rw [upd_ne (fun z => nb (.inr z))]; exact h, (Same.new hD _).tm⟩, fun q hq => (o1.pu q hq).1.same (Same.new hD _), [], [], upd_same, .nil, by simp, fun j e h => by simp at h⟩, ?_⟩
  rintro i m σ' H' ⟨rfl, hi, ⟨ρ, lρ, rfl⟩, ev, pu, vs, es, hv, zv, le, hes⟩
  have evW : Ev W H1 H' := ⟨fun b u nb h => ev.keep b u (fun z => z.elim (fun y => nb (o1.pw b y)) fun y => by rw [y] at h; rw [hD] at h; cases h) h, ev.tm⟩
  have ok' : Ok p (fun b => W b \/ b = D) H' := ⟨fun q hq => ⟨pu q hq, .inl (o1.pw q hq)⟩, fun b hb => by
    by_cases z : b = D
    . subst z; exact ⟨_, hv⟩
    . by_cases y : p = some b
      . obtain ⟨x1, x2, h⟩ := pu b y; exact ⟨_, h⟩
      . obtain ⟨ys, h⟩ := o1.al b (hb.resolve_right z)
        exact ⟨ys, ev.keep _ _ (fun w => w.elim y z) h⟩⟩
  have evD : Ev (fun b => W b \/ b = D) H1 H' := evW.mono fun _ h => .inl h
  have rs' : Rs p (fun b => W b \/ b = D) K H' L σ τ := by
    refine Rs.evx r1' ev (fun a ha z => ?_) fun a u ha np z => ?_
    . rcases z with z | z
      . exact ha (.inl (o1.pw a z))
      . exact ha (.inr z)
    . rcases z with z | z
      . exact np z
      . rw [z, hD] at ha; cases ha
  obtain ⟨stop, each⟩ := jd (fun b => W b \/ b = D) H' evW fun a ha => ha.imp id fun z => by rw [z]; exact hD
  have o1f : H D = none := o1.back e1 hD
  by_cases hlt : i < ds.length
  . have hd : ds[i]? = some ds[i] := by simp [hlt]
    have hm : ds[i] ∈ ds := List.getElem_mem hlt
    obtain ⟨go, yl⟩ := each i _ hd
    have tk : ds.take (i + 1) = ds.take i ++ [ds[i]] := by rw [List.take_add_one]; simp [hlt]
    refine .inr ⟨go, fun x H2 y => ?_⟩
    obtain ⟨s2, z2⟩ := yl x H2 y
    have ok2 := ok'.same s2
    refine hg _ hm _ L ρ σ τ H2 x _ lρ (rs'.ev (Ev.of s2) ok'.pw) z2 fun ρ' lρ' rs2 => ?_
    refine ht _ hm _ L _ H2 _ rs2 ok2 fun b H4 eb e4 o4 => ?_
    have pvH : Ev (fun a => Pp p a \/ a = D) H' H4 := (Ev.of s2).trans (e4.mono fun _ h => .inl h)
    have hv4 : H4 D = some (.lst vs) := e4.keep _ _ pD (s2 _ _ hv)
    have zv4 : Dzs (fun b => ¬ (W b \/ b = D)) K H4 vs es := (zv.ev (W := fun _ => False) (Ev.of s2) fun _ _ h => h).ev e4 fun a ha z => ha (.inl (o1.pw a z))
    subst eb
    by_cases hk : kp ds[i] = true
    . rw [if_pos hk]
      refine turn _ hm hk _ L _ H4 _ (rs2.ev e4 ok2.pw) o4 fun v H5 s c e5 o5 rv => ?_
      obtain ⟨e, rfl, ce⟩ := c
      have hv5 : H5 D = some (.lst vs) := e5.keep _ _ pD hv4
      have zv5 := zv4.ev e5 fun a ha z => ha (.inl (o1.pw a z))
      have ll : vs.length <= i := by rw [zv.len, le]; exact Nat.le_trans (List.length_filter_le _ _) (by rw [List.length_take]; omega)
      have evu : Ev (fun b => b = D) H5 (upd H5 D (.lst (vs ++ [v]))) := ⟨fun b o n h => by rw [upd_ne n]; exact h, Tm.lst hv5 _⟩
      refine ⟨vs, hv5, by omega, ds.length - (i + 1), by omega, rfl, hlt, ⟨ρ', lρ', rfl⟩, (ev.trans (pvH.trans (e5.mono fun _ h => .inl h))).trans (evu.mono fun _ h => .inr h), fun q hq => ?_, vs ++ [v], es ++ [e], upd_same, (zv5.app (.cons rv .nil)).ev evu fun b hb z => hb (.inr z), ?_, fun j f hj => ?_⟩
      . obtain ⟨x1, x2, h⟩ := (o5.pu q hq).1
        exact ⟨x1, x2, by rw [upd_ne (fun z => pD (by rw [<- z]; exact hq))]; exact h⟩
      . rw [tk, List.filter_append, List.length_append, List.length_append, le]; simp [hk]
      . rw [tk, List.filter_append]
        have h1 : [ds[i]].filter kp = [ds[i]] := by simp [hk]
        rw [h1]
        by_cases hj2 : j < es.length
        . rw [List.getElem?_append_left hj2] at hj
          rw [List.getElem?_append_left (by rw [<- le]; exact hj2)]
          exact hes j f hj
        . rw [List.getElem?_append_right (by omega)] at hj
          have ej : j - es.length = 0 := by
            have := (List.getElem?_eq_some_iff.mp hj).1
            simp at this; omega
          rw [ej] at hj
          cases hj
          rw [List.getElem?_append_right (by omega), <- le, ej]
          exact ⟨_, rfl, ce⟩
    . rw [if_neg hk]
      refine ⟨ds.length - (i + 1), by omega, rfl, hlt, ⟨ρ', lρ', rfl⟩, ev.trans pvH, fun q hq => (o4.pu q hq).1, vs, es, hv4, zv4, ?_, fun j f hj => ?_⟩
      . rw [tk, List.filter_append, List.length_append, le]; simp [hk]
      . obtain ⟨d, h1, h2⟩ := hes j f hj
        rw [tk, List.filter_append]
        have h3 : [ds[i]].filter kp = [] := by simp [hk]
        rw [h3, List.append_nil]
        exact ⟨d, h1, h2⟩
  . have e : i = ds.length := by omega
    subst e
    rw [List.take_length] at le hes
    have evP : Ev (Pp p) H1 H' := ⟨fun b u nb h => ev.keep b u (fun z => z.elim nb fun y => by rw [y] at h; rw [hD] at h; cases h) h, ev.tm⟩
    refine .inl ⟨stop, q _ H' _ ⟨es, rfl, le, hes⟩ (e1.trans evP) (o1.ev evP pu) ⟨D, vs, rfl, o1f, hv, zv.mono fun a ha z => ha (.inl z)⟩⟩
end
end D
end
section
namespace D
open PySem L2 K0
open PySem.W (Dat)
section
variable {p : Option Addr} {K : PySem.W.Frag} {W : Addr -> Prop} {L : List Addr} {σ : St} {H H0 H1 H2 : Hp} {τ τ' : List Sl} {ta tb te : TE} {tas : TA} {v : V} {s : Sl} {t : TS} {ds : List Dat} {wi : TI} {tt : TT}
theorem T1.all : T1 p K tAll τ true := fun W L σ H Q r o q => q true H rfl Ev.refl o
theorem filter_true (ds : List Dat) : ds.filter (fun _ => true) = ds := List.filter_eq_self.mpr fun _ _ => rfl
theorem E.compC {Cd : Dat -> Dat -> Prop} (hw : Wk p K wi τ ds) (turn : ∀ d, d ∈ ds -> E p K te (.dat d :: τ) (fun s => ∃ e, s = .dat e /\ Cd d e)) (hz : ds.length <= sizeLine) :
    E p K (tCompB 1 wi (gName 0) tAll te) τ (fun s => ∃ es, s = .own es /\ es.length = ds.length /\ ∀ (i : Nat) (e : Dat), es[i]? = some e -> ∃ d, ds[i]? = some d /\ Cd d e) := by
  have h := E.comp (tt := tAll) hw (fun d => [.dat d]) (fun d _ => Gc.name) (fun _ => true) Cd (fun _ _ => T1.all) (fun d hd _ => turn d hd) hz
  rw [filter_true] at h
  exact h
theorem map_of {f : Dat -> Dat} {es : List Dat} (l : es.length = ds.length) (h : ∀ (i : Nat) (e : Dat), es[i]? = some e -> ∃ d, ds[i]? = some d /\ f d = e) : es = ds.map f := by
  apply List.ext_getElem?
  intro i
  rw [List.getElem?_map]
  cases q : es[i]? with
  | none =>
    have := List.getElem?_eq_none_iff.mp q
    rw [List.getElem?_eq_none (by omega)]; rfl
  | some e => obtain ⟨d, h1, h2⟩ := h i e q; rw [h1, <- h2]; rfl
theorem E1.compM {f : Dat -> Dat} (hw : Wk p K wi τ ds) (turn : ∀ d, d ∈ ds -> E1 p K te (.dat d :: τ) (.dat (f d))) (hz : ds.length <= sizeLine) : E1 p K (tCompB 1 wi (gName 0) tAll te) τ (.own (ds.map f)) := by
  refine E.mono (E.compC (Cd := fun d e => f d = e) hw (fun d hd => E.mono (turn d hd) fun s hs => ⟨_, hs.symm, rfl⟩) hz) fun s hs => ?_
  obtain ⟨es, rfl, l, h⟩ := hs
  rw [map_of l h]
theorem E1.compF {f : Dat -> Dat} {kp : Dat -> Bool} (hw : Wk p K wi τ ds) (ht : ∀ d, d ∈ ds -> T1 p K tt (.dat d :: τ) (kp d)) (turn : ∀ d, d ∈ ds -> kp d = true -> E1 p K te (.dat d :: τ) (.dat (f d))) (hz : ds.length <= sizeLine) : E1 p K (tCompB 1 wi (gName 0) tt te) τ (.own ((ds.filter kp).map f)) := by
  refine E.mono (E.comp hw (fun d => [.dat d]) (fun d _ => Gc.name) kp (fun d e => f d = e) ht (fun d hd hk => E.mono (turn d hd hk) fun s hs => ⟨_, hs.symm, rfl⟩) hz) fun s hs => ?_
  obtain ⟨es, rfl, l, h⟩ := hs
  rw [map_of l h]
noncomputable def p1 : Dat -> Dat
  | .tuple [x, _] => x
  | d => d
noncomputable def p2 : Dat -> Dat
  | .tuple [_, y] => y
  | d => d
theorem zipD_mem {xs ys : List Dat} {d : Dat} (h : d ∈ zipD xs ys) : ∃ x y, d = .tuple [x, y] /\ x ∈ xs /\ y ∈ ys := by
  obtain ⟨i, hi⟩ := List.mem_iff_getElem?.mp h
  obtain ⟨x, y, h1, h2, h3⟩ := zipD_get hi
  exact ⟨x, y, h3, List.mem_of_getElem? h1, List.mem_of_getElem? h2⟩
theorem E1.compI {ns : List Int} {g : Int -> Int} (hw : Wk p K wi τ (ns.map .int)) (turn : ∀ n, n ∈ ns -> E1 p K te (.dat (.int n) :: τ) (.dat (.int (g n)))) (hz : ns.length <= sizeLine) : E1 p K (tCompB 1 wi (gName 0) tAll te) τ (.own ((ns.map g).map .int)) := by
  have h := E1.compM (f := fun d => match d with | .int n => .int (g n) | d => d) hw (fun d hd => by
    obtain ⟨n, hn, rfl⟩ := List.mem_map.mp hd
    exact turn n hn) (by rw [List.length_map]; exact hz)
  rw [List.map_map] at h ⊢
  exact h
theorem E1.compIF {ns : List Int} {kp : Int -> Bool} (hw : Wk p K wi τ (ns.map .int)) (ht : ∀ n, n ∈ ns -> T1 p K tt (.dat (.int n) :: τ) (kp n)) (turn : ∀ n, n ∈ ns -> E1 p K te (.dat (.int n) :: τ) (.dat (.int n))) (hz : ns.length <= sizeLine) : E1 p K (tCompB 1 wi (gName 0) tt te) τ (.own ((ns.filter kp).map .int)) := by
  have h := E1.compF (f := id) (kp := fun d => match d with | .int n => kp n | d => false) hw (fun d hd => by
    obtain ⟨n, hn, rfl⟩ := List.mem_map.mp hd
    exact ht n hn) (fun d hd _ => by
    obtain ⟨n, hn, rfl⟩ := List.mem_map.mp hd
    exact turn n hn) (by rw [List.length_map]; exact hz)
  rw [List.map_id, List.filter_map] at h
  exact h
theorem E1.cb1 {r : List V -> Hp -> VK -> Prop} {a c : Sl} (ha : A1 p K tas τ [a]) (hr : ∀ (W : Addr -> Prop) (H0 H : Hp) (x : V) (Q : VK), Ok p W H0 -> Ok p W H -> Ev (Pp p) H0 H -> Rv p W K H0 H x a -> (∀ v H', Ev (Pp p) H H' -> Ok p W H' -> Rv p W K H0 H' v c -> Q v H') -> r [x] H Q) : E1 p K (tCB r tas) τ c := fun W L σ H Q rs o q =>
  ha W L σ H _ rs o fun vs H1 ss e e1 o1 rv => by
    subst e
    cases rv with
    | cons a t =>
      cases t
      exact hr W H H1 _ _ o o1 e1 a fun v H' e2 o2 rv => q v H' _ rfl (e1.trans e2) o2 rv
theorem E1.tupleL {ds : List Dat} (ha : A1 p K tas τ [.vw ds]) : E1 p K (tCB (fun xs H Q => ∃ p ys, xs = [.ref p] /\ ((SqL K H p ys /\ ∀ l, H l = none -> Q (.ref l) (upd H l (.tup ys))) \/ (SqT K H p ys /\ Q (.ref p) H))) tas) τ (.dat (.tuple ds)) :=
  E1.cb1 ha fun W H0 H x Q o0 o _ r q => by
    obtain ⟨a, vs, rfl, h1, h2⟩ := r
    refine ⟨a, vs, rfl, .inl ⟨h1.sq, fun l hl => ?_⟩⟩
    have s := Same.new hl (.tup vs)
    exact q _ _ (Ev.of s) (o.same s) (.tup (SqT.of upd_same) (h2.ev (W := Pp p) (Ev.of s) o.nw))
theorem E1.lenL {ds : List Dat} (ha : A1 p K tas τ [.vw ds]) : E1 p K (tCB (fun xs H Q => ∃ p ys, xs = [.ref p] /\ (SqL K H p ys \/ SqT K H p ys) /\ Q (.int ys.length) H) tas) τ (.dat (.int ds.length)) :=
  E1.cb1 ha fun W H0 H x Q o0 o _ r q => by
    obtain ⟨a, vs, rfl, h1, h2⟩ := r
    refine ⟨a, vs, rfl, .inl h1.sq, ?_⟩
    rw [h2.len]
    exact q _ H Ev.refl o (.int _)
theorem E1.lenT {ds : List Dat} (ha : A1 p K tas τ [.dat (.tuple ds)]) : E1 p K (tCB (fun xs H Q => ∃ p ys, xs = [.ref p] /\ (SqL K H p ys \/ SqT K H p ys) /\ Q (.int ys.length) H) tas) τ (.dat (.int ds.length)) :=
  E1.cb1 ha fun W H0 H x Q o0 o _ r q => by
    cases r with
    | tup h1 h2 =>
      refine ⟨_, _, rfl, .inr h1, ?_⟩
      rw [h2.len]
      exact q _ H Ev.refl o (.int _)
noncomputable def cutA {α : Type} (xs : List α) (lo hi : Option Int) : List α := (xs.drop (HT.sIx xs.length 0 lo)).take (HT.sIx xs.length xs.length hi - HT.sIx xs.length 0 lo)
noncomputable def O1 (p : Option Addr) (K : PySem.W.Frag) (to : TO) (τ : List Sl) (i : Option Int) : Prop := ∀ (W : Addr -> Prop) (L : List Addr) (σ : St) (H : Hp) (Q : Option Int -> Hp -> Prop), Rs p W K H L σ τ -> Ok p W H -> (∀ H', Ev (Pp p) H H' -> Ok p W H' -> Q i H') -> to σ H Q
theorem O1.none : O1 p K tNoPart τ Option.none := fun W L σ H Q r o q => q H Ev.refl o
theorem O1.some {i : Int} (h : E1 p K te τ (.dat (.int i))) : O1 p K (tPart te) τ (Option.some i) := fun W L σ H Q r o q => h W L σ H _ r o fun v H1 s e e1 o1 rv => by
  subst e; cases rv.int_inv; exact ⟨i, rfl, q H1 e1 o1⟩
theorem cut_dz {N : Addr -> Prop} {vs : List V} {ds : List Dat} {lo hi : Option Int} (h : Dzs N K H vs ds) : Dzs N K H (cutV vs lo hi) (cutA ds lo hi) := by
  unfold cutV cutA
  rw [h.len]
  exact (h.drop _).take _
theorem E1.slT {ds : List Dat} {lo hi : Option Int} {tl th : TO} (h : E1 p K te τ (.dat (.tuple ds))) (hl : O1 p K tl τ lo) (hh : O1 p K th τ hi) (hn : ¬ (HT.sIx ds.length 0 lo = 0 /\ HT.sIx ds.length ds.length hi = ds.length)) : E1 p K (tSl (rSlT K) te tl th) τ (.dat (.tuple (cutA ds lo hi))) := fun W L σ H Q r o q =>
  h W L σ H _ r o fun v H1 s e e1 o1 rv => by
    subst e
    refine hl W L σ H1 _ (r.ev e1 o.pw) o1 fun H2 e2 o2 => hh W L σ H2 _ ((r.ev e1 o.pw).ev e2 o.pw) o2 fun H3 e3 o3 => ?_
    cases (rv.ev (e2.trans e3) o1 o) with
    | tup h1 h2 =>
      rename_i a vs
      refine ⟨a, vs, rfl, h1, by rw [h2.len]; exact hn, fun l hl => ?_⟩
      have s := Same.new hl (.tup (cutV vs lo hi))
      exact q _ _ _ rfl ((e1.trans (e2.trans e3)).trans (Ev.of s)) (o3.same s) (.tup (SqT.of upd_same) ((cut_dz h2).ev (W := Pp p) (Ev.of s) o3.nw))
theorem E1.slL {ds : List Dat} {lo hi : Option Int} {tl th : TO} (h : E1 p K te τ (.vw ds)) (hl : O1 p K tl τ lo) (hh : O1 p K th τ hi) : E1 p K (tSl (rSlL K) te tl th) τ (.own (cutA ds lo hi)) := fun W L σ H Q r o q =>
  h W L σ H _ r o fun v H1 s e e1 o1 rv => by
    subst e
    refine hl W L σ H1 _ (r.ev e1 o.pw) o1 fun H2 e2 o2 => hh W L σ H2 _ ((r.ev e1 o.pw).ev e2 o.pw) o2 fun H3 e3 o3 => ?_
    obtain ⟨a, vs, rfl, h1, h2⟩ := rv.ev (e2.trans e3) o1 o
    refine ⟨a, vs, rfl, h1.sq, fun l hl => ?_⟩
    have s := Same.new hl (.lst (cutV vs lo hi))
    exact q _ _ _ rfl ((e1.trans (e2.trans e3)).trans (Ev.of s)) (o3.same s) ⟨l, _, rfl, o3.back (e1.trans (e2.trans e3)) hl, upd_same, (cut_dz h2).ev (W := Pp p) (Ev.of s) o3.nw⟩
theorem E1.catT {xs ys : List Dat} (ha : E1 p K ta τ (.dat (.tuple xs))) (hb : E1 p K tb τ (.dat (.tuple ys))) (hz : xs.length + ys.length <= sizeLine) : E1 p K (tOp (rCatW K) ta tb) τ (.dat (.tuple (xs ++ ys))) :=
  E1.op2 ha hb fun W H0 H x y Q o0 o r1 r2 q => by
    cases r1 with
    | tup h1 h2 =>
      cases r2 with
      | tup h3 h4 =>
        refine ⟨_, _, _, _, rfl, rfl, h1, h3, by rw [h2.len, h4.len]; exact hz, fun a H' s h => ?_⟩
        exact q _ H' (Ev.of s) (o.same s) (.tup h ((h2.app h4).ev (W := Pp p) (Ev.of s) o.nw))
theorem E1.catL {xs ys : List Dat} (ha : E1 p K ta τ (.own xs)) (hb : E1 p K tb τ (.own ys)) (hz : xs.length + ys.length <= sizeLine) : E1 p K (tOp rCat ta tb) τ (.own (xs ++ ys)) := fun W L σ H Q rs o q =>
  ha W L σ H _ rs o fun x H1 s e e1 o1 rv1 => hb W L σ H1 _ (rs.ev e1 o.pw) o1 fun y H2 t e' e2 o2 rv2 => by
    subst e e'
    obtain ⟨a, vs, rfl, h0, h1, h2⟩ := rv1.ev e2 o1 o
    obtain ⟨b, us, rfl, h3, h4, h5⟩ := rv2
    refine ⟨a, b, vs, us, rfl, rfl, h1, h4, by rw [h2.len, h5.len]; exact hz, fun l hl => ?_⟩
    have s := Same.new hl (.lst (vs ++ us))
    have e12 := e1.trans e2
    exact q _ _ _ rfl (e12.trans (Ev.of s)) (o2.same s) ⟨l, _, rfl, o2.back e12 hl, upd_same, (h2.app h5).ev (W := Pp p) (Ev.of s) o2.nw⟩
end
noncomputable def spP (K : PySem.W.Frag) (R : List Dat -> Dat -> Prop) : Sp := fun vs H Q _ => ∃ ds d, Dzs (fun _ => True) K H vs ds /\ R ds d /\ ∀ v H', Same H H' -> Dz (fun a => H a = none) K H' v d -> Q v H'
noncomputable def spU (K : PySem.W.Frag) (R : List Dat -> (Dat -> Prop) -> Prop) : Sp := fun vs H Q _ => ∃ q us ds C, vs = .ref q :: us /\ Dzs (fun a => a ≠ q) K H us ds /\ Pu H q /\ R ds C /\ ∀ v H' d, C d -> Ev (fun a => a = q) H H' -> Pu H' q -> Dz (fun a => H a = none) K H' v d -> Q v H'
section
variable {p : Option Addr} {K : PySem.W.Frag} {W : Addr -> Prop} {L : List Addr} {σ : St} {H H0 H1 H2 : Hp} {τ τ' : List Sl} {ta tb te : TE} {tas : TA} {v : V} {s : Sl} {t : TS} {ds : List Dat} {E' : XK}
noncomputable def datsOf : List Sl -> Option (List Dat)
  | [] => some []
  | s :: r => match datOf s, datsOf r with
    | some d, some ds => some (d :: ds)
    | _, _ => none
theorem Rvs.dz {ss : List Sl} {vs : List V} (h : Rvs p W K H0 H vs ss) : ∀ {ds : List Dat}, datsOf ss = some ds -> Dzs (fun _ => True) K H vs ds := by
  induction h with
  | nil => intro ds e; cases e; exact .nil
  | cons a t ih =>
    rename_i v s vs ss
    intro ds e
    unfold datsOf at e
    cases e1 : datOf s with
    | none => rw [e1] at e; simp at e
    | some d =>
      cases e2 : datsOf ss with
      | none => rw [e1, e2] at e; simp at e
      | some r =>
        rw [e1, e2] at e; cases e
        refine .cons ?_ (ih e2)
        cases s with
        | un => cases e1
        | pu => cases e1
        | dat d' => cases e1; exact Dz.mono (fun _ _ => trivial) a
        | own ds => cases e1; obtain ⟨a, vs, rfl, _, h2, h3⟩ := a; exact .lst (.inl ⟨trivial, .inl h2⟩) (h3.mono fun _ _ => trivial)
        | vw ds => cases e1; obtain ⟨a, vs, rfl, h2, h3⟩ := a; exact .lst (h2.elim (fun z => .inl ⟨trivial, z.2⟩) .inr) (h3.mono fun _ _ => trivial)
theorem E1.call {R : List Dat -> Dat -> Prop} {ss : List Sl} {ds : List Dat} {d : Dat} (ha : A1 p K tas τ ss) (hr : R ds d) (hd : datsOf ss = some ds := by rfl) : E1 p K (tCall (spP K R) [] E' tas) τ (.dat d) := fun W L σ H Q rs o q => ha W L σ H _ rs o fun vs H1 ss e e1 o1 rv => by
  subst e
  rw [List.append_nil]
  exact ⟨ds, d, rv.dz hd, hr, fun v H' s z => q v H' _ rfl (e1.trans (Ev.of s)) (o1.same s) (z.mono fun a ha => o1.fresh ha)⟩
theorem Rvs.dzp {q : Addr} {vs : List V} {ds : List Dat} (h : Rvs (some q) W K H0 H vs (ds.map .dat)) (w : W q) : Dzs (fun a => a ≠ q) K H vs ds := h.dats.mono fun a n z => n (by rw [z]; exact w)
theorem E.callU {R : List Dat -> (Dat -> Prop) -> Prop} {ds : List Dat} {C : Dat -> Prop} (ha : A1 p K tas τ (.pu :: ds.map .dat)) (hr : R ds C) : E p K (tCall (spU K R) [] E' tas) τ (fun s => ∃ d, s = .dat d /\ C d) := fun W L σ H Q rs o q => ha W L σ H _ rs o fun vs H1 ss e e1 o1 rv => by
  subst e
  rw [List.append_nil]
  cases rv with
  | cons a t =>
    obtain ⟨q0, rfl, rfl⟩ := a
    have w := o1.pw q0 rfl
    refine ⟨q0, _, ds, C, rfl, Rvs.dzp t w, (o1.pu q0 rfl).1, hr, fun v H' d c ev pu z => ?_⟩
    have e2 : Ev (Pp (some q0)) H1 H' := ev.mono fun a h => by rw [h]; rfl
    exact q v H' _ ⟨d, rfl, c⟩ (e1.trans e2) (o1.ev e2 fun q hq => by cases hq; exact pu) (z.mono fun a ha => o1.fresh ha)
noncomputable def Gives (d : Dat) : Sl -> Prop
  | .dat e => d = e /\ noL d = true
  | .own ds => d = .list ds /\ noLs ds = true
  | _ => False
theorem rs_start {N : Addr -> Prop} : ∀ {vs : List V} {ds : List Dat} (n : Nat), Dzs N K H vs ds -> (∀ a, N a -> ¬ W a) -> Rs p W K H [] (vs.map some ++ List.replicate n none) (ds.map .dat ++ List.replicate n .un)
  | _, _, 0, .nil, _ => .nil
  | _, _, n + 1, .nil, h => by
    have := rs_start n (Dzs.nil (N := N) (K := K) (H := H)) h
    rw [List.replicate_succ, List.replicate_succ]
    exact .un this
  | _, _, n, .cons a r, h => .dat (a.mono h) (rs_start n r h)
variable {P : Program} {w : World} {mg : Str -> Option Value} {base : Heap}
theorem okP {x qual : Str} {st : Stmt} {f : Addr} {fd : FuncData} {N ps : List Str} {k : Nat} {R : List Dat -> Dat -> Prop} (F : Fun K x qual st f fd) (S0 : FnScope N ps (defScope st)) (len : ∀ ds d, R ds d -> ds.length = ps.length)
    (body : ∀ (cdv : Value) (A : Around) (outer : List Env) (s : Shared) (H : Hp) (E : XK), Room k (A.deeper (PyProof.Rows.envOfC qual (defScope st) s.heap.objs.size f cdv)) ->
      ∃ t, ZSs (cxOf CX0 P w K mg base N qual (defScope st) f cdv A outer s H E).nox (defBody st) t /\ ∀ ds d, R ds d -> S none K t (ds.map .dat ++ List.replicate (N.length - ps.length) .un) (fun _ => d = .none) (Gives d)) : FnOk P w K mg base CX0 (k + 1) f fd ps (spP K R) := by
  refine F.okZ S0 (fun vs H Q E h => ?_) (fun cdv A outer s H vs Q E hr h => ?_)
  . obtain ⟨ds, d, z, r, _⟩ := h; rw [z.len]; exact len ds d r
  . obtain ⟨ds, d, z, r, q⟩ := h
    obtain ⟨t, hz, hs⟩ := body cdv A outer s H E hr
    refine ⟨t, hz, ?_⟩
    have l : vs.length = ps.length := by rw [z.len]; exact len ds d r
    have r0 : Rs none (fun _ => False) K H [] (L2.start N vs) (ds.map .dat ++ List.replicate (N.length - ps.length) .un) := by
      unfold L2.start
      rw [l]
      exact rs_start _ z fun a _ h => h
    have same : ∀ {H' : Hp}, Ev (fun _ => False) H H' -> Same H H' := fun e b o h => e.keep b o (fun z => z) h
    refine hs ds d r (fun _ => False) [] _ H _ r0 ⟨fun q h => (by cases h), fun a h => False.elim h⟩ (fun W' L' σ' H' τ' e ev o' al n l r' => ?_) (fun W' H' v s e ev o' al n rv => ?_)
    . subst e; exact q .non H' (same ev) .none
    . cases s with
      | dat d' =>
        obtain ⟨rfl, nl⟩ := e
        exact q v H' (same ev) (Dz.free rv nl)
      | own es =>
        obtain ⟨rfl, nl⟩ := e
        obtain ⟨a, vs, rfl, h1, h2, h3⟩ := rv
        exact q _ H' (same ev) (.lst (.inl ⟨h1.resolve_left (fun z => by cases z), .inl h2⟩) (h3.free nl))
      | un => cases e
      | pu => cases e
      | vw ds => cases e
theorem okU {x qual : Str} {st : Stmt} {f : Addr} {fd : FuncData} {N ps : List Str} {k : Nat} {R : List Dat -> (Dat -> Prop) -> Prop} (F : Fun K x qual st f fd) (S0 : FnScope N ps (defScope st)) (len : ∀ ds C, R ds C -> ds.length + 1 = ps.length)
    (body : ∀ (cdv : Value) (A : Around) (outer : List Env) (s : Shared) (H : Hp) (E : XK), Room k (A.deeper (PyProof.Rows.envOfC qual (defScope st) s.heap.objs.size f cdv)) ->
      ∃ t, ZSs (cxOf CX0 P w K mg base N qual (defScope st) f cdv A outer s H E).nox (defBody st) t /\ ∀ (q : Addr) ds C, R ds C -> S (some q) K t (.pu :: ds.map .dat ++ List.replicate (N.length - ps.length) .un) (fun _ => False) (fun s => ∃ d, C d /\ Gives d s)) : FnOk P w K mg base CX0 (k + 1) f fd ps (spU K R) := by
  refine F.okZ S0 (fun vs H Q E h => ?_) (fun cdv A outer s H vs Q E hr h => ?_)
  . obtain ⟨q, us, ds, C, rfl, z, _, r, _⟩ := h; rw [List.length_cons, z.len]; exact len ds C r
  . obtain ⟨q0, us, ds, C, rfl, z, pu, r, q⟩ := h
    obtain ⟨t, hz, hs⟩ := body cdv A outer s H E hr
    refine ⟨t, hz, ?_⟩
    have l : (V.ref q0 :: us).length = ps.length := by rw [List.length_cons, z.len]; exact len ds C r
    have r0 : Rs (some q0) (fun a => a = q0) K H [] (L2.start N (.ref q0 :: us)) (.pu :: ds.map .dat ++ List.replicate (N.length - ps.length) .un) := by
      unfold L2.start
      rw [l]
      exact .pu rfl (rs_start _ z fun a h => h)
    have o0 : Ok (some q0) (fun a => a = q0) H := ⟨fun q h => (by cases h; exact ⟨pu, rfl⟩), fun a h => by obtain ⟨x, y, e⟩ := pu; exact ⟨_, by rw [h]; exact e⟩⟩
    refine hs q0 ds C r (fun a => a = q0) [] _ H _ r0 o0 (fun W' L' σ' H' τ' e ev o' al n l r' => e.elim) (fun W' H' v s e ev o' al n rv => ?_)
    obtain ⟨d, c, e⟩ := e
    cases s with
    | dat d' =>
      obtain ⟨rfl, nl⟩ := e
      exact q v H' _ c ev (o'.pu q0 rfl).1 (Dz.free rv nl)
    | own es =>
      obtain ⟨rfl, nl⟩ := e
      obtain ⟨a, vs, rfl, h1, h2, h3⟩ := rv
      exact q _ H' _ c ev (o'.pu q0 rfl).1 (.lst (.inl ⟨h1.resolve_left (fun z => by cases z), .inl h2⟩) (h3.free nl))
    | un => cases e
    | pu => cases e
    | vw ds => cases e
end
end D
end
section
namespace L2
open PySem PySem.Spec PyProof.Rows
open PySem.W (Dat)
noncomputable def tyD : Dat -> String
  | .none => "NoneType"
  | .bool _ => "bool"
  | .int _ => "int"
  | .str _ => "str"
  | .tuple _ => "tuple"
  | .list _ => "list"
  | _ => "object"
theorem call_isiD {X : Cx} {T : String} : CallR X (.builtin "isinstance") (fun xs H Q => ∃ x d b, xs = [x, .ty T] /\ Is X.K H x d /\ PySem.W.kitOne X.K (.type (tyD d)) (.type T) = some b /\ Q (.bl b) H) := by
  intro pins s σ H xs us Q I r h
  obtain ⟨x, d, b, rfl, z, e, q⟩ := h
  cases r with
  | cons r1 r2 =>
    cases r2 with
    | cons r3 r4 =>
      cases r4
      cases (show _ = Value.type T from r3)
      have fin : ∀ tk, EP X pins σ Q (.bool b) { s with toks := tk } := fun tk => ⟨.bl b, H, I.tok tk, rfl, q⟩
      cases z with
      | none => exact isinst_ok I r1 .non e fin
      | bool y => exact isinst_ok I r1 (.bl y) e fin
      | int i => exact isinst_ok I r1 (.int i) e fin
      | str y => exact isinst_ok I r1 (.str y) e fin
      | @tup a ys ds h1 h2 =>
        cases (show _ = Value.ref a from r1)
        obtain ⟨its, _, ⟨o, h3, h4, _⟩, _⟩ := I.tuple h1
        exact PySem.W.kia_one PySem.W.kitx_tuple I.kIn ⟨o, h3, h4⟩ e (fun z => nomatch z) fin
      | @lst a ys ds h1 h2 =>
        cases (show _ = Value.ref a from r1)
        obtain ⟨its, _, ⟨o, n, h3, h4, _⟩, _⟩ := I.list h1
        exact PySem.W.kia_one PySem.W.kitx_list I.kIn ⟨o, h3, h4⟩ e (fun z => nomatch z) fin
end L2
namespace D
open PySem L2 K0 Num
open PySem.W (Dat)
noncomputable abbrev tI (ns : List Int) : Dat := .tuple (ns.map .int)
section
variable {p : Option Addr} {K : PySem.W.Frag} {W : Addr -> Prop} {L : List Addr} {σ : St} {H H0 H1 : Hp} {τ : List Sl} {ta tb te : TE} {tas : TA} {v : V} {s : Sl} {t : TS} {ds : List Dat} {E' : XK}
noncomputable def dOf : List Sl -> Option (List Dat)
  | [] => some []
  | .dat d :: r => match dOf r with
    | some ds => some (d :: ds)
    | none => none
  | _ => none
theorem dOf_eq : ∀ {ss : List Sl} {ds : List Dat}, dOf ss = some ds -> ss = ds.map .dat
  | [], ds, h => by cases h; rfl
  | .dat d :: r, ds, h => by
    unfold dOf at h
    cases e : dOf r with
    | none => rw [e] at h; cases h
    | some es => rw [e] at h; cases h; rw [dOf_eq e]; rfl
  | .un :: _, _, h => by cases h
  | .pu :: _, _, h => by cases h
  | .own _ :: _, _, h => by cases h
  | .vw _ :: _, _, h => by cases h
theorem E1.tu {ss : List Sl} {ds : List Dat} (h : A1 p K tas τ ss) (e : dOf ss = some ds) (hz : ds.length <= sizeLine) : E1 p K (tTup tas) τ (.dat (.tuple ds)) := E1.tup (dOf_eq e ▸ h) hz
theorem E1.li {ss : List Sl} {ds : List Dat} (h : A1 p K tas τ ss) (e : dOf ss = some ds) (hz : ds.length <= sizeLine) : E1 p K (tLst tas) τ (.own ds) := E1.lst (dOf_eq e ▸ h) hz
theorem E1.isi {T : String} {s : Sl} {d : Dat} {b : Bool} (ha : E1 p K te τ s) (hd : datOf s = some d) (hb : ∀ K, PySem.W.kitOne K (.type (tyD d)) (.type T) = some b) : E1 p K (tCB (fun xs H Q => ∃ x d b, xs = [x, .ty T] /\ Is K H x d /\ PySem.W.kitOne K (.type (tyD d)) (.type T) = some b /\ Q (.bl b) H) (tCons te (tCons (tC (.ty T)) tNil))) τ (.dat (.bool b)) := fun W L σ H Q r o q =>
  ha W L σ H _ r o fun v H1 s e e1 o1 rv => by
    subst e
    exact ⟨v, d, b, rfl, rv.isD hd, hb K, q _ H1 _ rfl e1 o1 (.bool _)⟩
theorem tup_inv {N : Addr -> Prop} {ns : List Int} {v : V} (h : Dz N K H v (tI ns)) : ∃ a, v = .ref a /\ SqT K H a (ns.map V.int) := by
  cases h with
  | tup h1 h2 => have e := h2.inv; subst e; exact ⟨_, rfl, h1⟩
theorem told {N : Addr -> Prop} {ns : List Int} {r : Addr} (h : H r = some (.tup (ns.map V.int))) : Dz N K H (.ref r) (tI ns) := .tup (SqT.of h) (Dzs.ints _)
theorem E.c1 {sp : Sp} {ns : List Int} {C : Sl -> Prop} (ha : A1 p K tas τ [.dat (tI ns)]) (h : ∀ (W : Addr -> Prop) (H : Hp) (a : Addr) (Q : VK), SqT K H a (ns.map V.int) -> (∀ v H' s, C s -> Same H H' -> (∀ W, Rv p W K H H' v s) -> Q v H') -> sp [.ref a] H Q E') : E p K (tCall sp [] E' tas) τ C := fun W L σ H Q rs o q => ha W L σ H _ rs o fun vs H1 ss e e1 o1 rv => by
  subst e
  cases rv with
  | cons a t =>
    cases t
    obtain ⟨r, rfl, z⟩ := tup_inv a
    exact h W H1 r _ z fun v H' s c sm z => q v H' s c (e1.trans (Ev.of sm)) (o1.same sm) ((z W).base e1 o1)
theorem E.c2 {sp : Sp} {ns ms : List Int} {C : Sl -> Prop} (ha : A1 p K tas τ [.dat (tI ns), .dat (tI ms)]) (h : ∀ (W : Addr -> Prop) (H : Hp) (a b : Addr) (Q : VK), SqT K H a (ns.map V.int) -> SqT K H b (ms.map V.int) -> (∀ v H' s, C s -> Same H H' -> (∀ W, Rv p W K H H' v s) -> Q v H') -> sp [.ref a, .ref b] H Q E') : E p K (tCall sp [] E' tas) τ C := fun W L σ H Q rs o q => ha W L σ H _ rs o fun vs H1 ss e e1 o1 rv => by
  subst e
  cases rv with
  | cons a t =>
    cases t with
    | cons b t =>
      cases t
      obtain ⟨r, rfl, z⟩ := tup_inv a
      obtain ⟨r2, rfl, z2⟩ := tup_inv b
      exact h W H1 r r2 _ z z2 fun v H' s c sm z => q v H' s c (e1.trans (Ev.of sm)) (o1.same sm) ((z W).base e1 o1)
theorem E1.cT {pre : List Int -> Prop} {fn : List Int -> List Int} {ns : List Int} (ha : A1 p K tas τ [.dat (tI ns)]) (hl : ns.length <= 1000) (hp : pre ns) : E1 p K (tCall (spT K pre fn) [] E' tas) τ (.dat (tI (fn ns))) :=
  E.c1 ha fun W H a Q z q => ⟨a, ns, rfl, z, hl, hp, fun r H' s h => q _ H' _ rfl s fun W => told h⟩
theorem E1.cSop {ns ms : List Int} (ha : A1 p K tas τ [.dat (tI ns), .dat (tI ms)]) (l1 : ns.length <= 1000) (l2 : ms.length = ns.length) (s1 : Sm ns) (s2 : Sm ms) : E1 p K (tCall (spSop K) [] E' tas) τ (.dat (.int (sop ns ms))) :=
  E.c2 ha fun W H a b Q z z2 q => ⟨a, b, ns, ms, rfl, z, z2, l1, l2, s1, s2, fun H' s => q _ H' _ rfl s fun W => .int _⟩
theorem E1.cCross {a b c d e f : Int} (ha : A1 p K tas τ [.dat (tI [a, b, c]), .dat (tI [d, e, f])]) (b1 : Bd (2 ^ 4000) [a, b, c]) (b2 : Bd (2 ^ 4000) [d, e, f]) : E1 p K (tCall (spCross K) [] E' tas) τ (.dat (tI (cr a b c d e f))) :=
  E.c2 ha fun W H x y Q z1 z2 q => ⟨x, y, a, b, c, d, e, f, rfl, z1, z2, b1, b2, fun r H' s h => q _ H' _ rfl s fun W => told h⟩
theorem E.ci2 {sp : Sp} {a b : Int} {C : Sl -> Prop} (ha : A1 p K tas τ [.dat (.int a), .dat (.int b)]) (h : ∀ (H : Hp) (Q : VK), (∀ v H' s, C s -> Same H H' -> (∀ W, Rv p W K H H' v s) -> Q v H') -> sp [.int a, .int b] H Q E') : E p K (tCall sp [] E' tas) τ C := fun W L σ H Q rs o q => ha W L σ H _ rs o fun vs H1 ss e e1 o1 rv => by
  subst e
  cases rv with
  | cons a t =>
    cases t with
    | cons b t =>
      cases t
      cases a.int_inv
      cases b.int_inv
      exact h H1 _ fun v H' s c sm z => q v H' s c (e1.trans (Ev.of sm)) (o1.same sm) ((z W).base e1 o1)
theorem E1.cWhole {a : Int} (ha : A1 p K tas τ [.dat (.int a)]) : E1 p K (tCall spWhole [] E' tas) τ (.dat (.bool true)) := fun W L σ H Q rs o q => ha W L σ H _ rs o fun vs H1 ss e e1 o1 rv => by
  subst e
  cases rv with
  | cons b t =>
    cases t
    cases b.int_inv
    exact ⟨a, rfl, q _ H1 _ rfl e1 o1 (.bool _)⟩
theorem sb_ev {q : Addr} {H H' : Hp} (s : SB q H H') (pu : Pu H q) : Ev (Pp (some q)) H H' := ⟨fun b o n h => s b o (fun z => n (by rw [z]; rfl)) h, by obtain ⟨x, y, e⟩ := pu; exact s.tm e⟩
noncomputable def EI (p : Option Addr) (K : PySem.W.Frag) (te : TE) (τ : List Sl) (P : Int -> Prop) : Prop := E p K te τ (fun s => ∃ i, s = .dat (.int i) /\ P i)
theorem EI.of {i : Int} {P : Int -> Prop} (h : E1 p K te τ (.dat (.int i))) (hp : P i) : EI p K te τ P := E.mono h fun s e => ⟨i, e.symm, hp⟩
theorem EI.mono {P P' : Int -> Prop} (h : EI p K te τ P) (m : ∀ i, P i -> P' i) : EI p K te τ P' := E.mono h fun s ⟨i, e, hp⟩ => ⟨i, e, m i hp⟩
theorem EI.op {g : Int -> Int -> Int} {P Q : Int -> Prop} (ha : EI p K ta τ P) (hb : EI p K tb τ Q) : EI p K (tOp (rI0 fun i j => .int (g i j)) ta tb) τ (fun k => ∃ i j, P i /\ Q j /\ k = g i j) :=
  E.op2 (B := fun _ => True) ha (fun _ _ => hb) fun s t ⟨i, e1, h1⟩ ⟨j, e2, h2⟩ W H0 H x y R o0 o r1 r2 q => by
    subst e1 e2
    exact ⟨i, j, r1.int_inv, r2.int_inv, q _ H _ ⟨_, rfl, i, j, h1, h2, rfl⟩ Ev.refl o (.int _)⟩
theorem EI.draw {m : Int} (ha : A1 p K tas τ [.pu, .dat (.int m)]) (h0 : 0 < m) (h1 : m < 2 ^ 200) : EI p K (tCall spDraw [] E' tas) τ (fun d => 0 <= d /\ d < m) := fun W L σ H Q rs o q => ha W L σ H _ rs o fun vs H1 ss e e1 o1 rv => by
  subst e
  cases rv with
  | cons a t =>
    cases t with
    | cons b t =>
      cases t
      obtain ⟨q0, rfl, rfl⟩ := a
      cases b.int_inv
      have pu := (o1.pu q0 rfl).1
      refine ⟨q0, m, rfl, pu, h0, h1, fun d H' d0 d1 sb pu' => ?_⟩
      have ev := sb_ev sb pu
      exact q _ H' _ ⟨d, rfl, d0, d1⟩ (e1.trans ev) (o1.ev ev fun q hq => by cases hq; exact pu') (.int _)
noncomputable def ER (p : Option Addr) (K : PySem.W.Frag) (te : TE) (τ : List Sl) (P : List Int -> Prop) : Prop := E p K te τ (fun s => ∃ ns, s = .dat (tI ns) /\ P ns)
end
theorem Bt.neg' {a : Int} {x : Nat} (ha : Bt a x) : Bt (-a) x := by unfold Bt at *; rw [Int.natAbs_neg]; exact ha
theorem bd_bt3 {k : Nat} {a b c : Int} (h : Bd (2 ^ k) [a, b, c]) : Bt a k /\ Bt b k /\ Bt c k := ⟨h a (by simp), h b (by simp), h c (by simp)⟩
section
variable {p : Option Addr} {K : PySem.W.Frag} {τ : List Sl} {te : TE} {ds : List Dat}
theorem lsz {α : Type} {l : List α} {n : Nat} (h : l.length = n) (hn : n <= sizeLine) : l.length <= sizeLine := h ▸ hn
theorem z1 : 1 <= sizeLine := by decide
theorem z2 : 2 <= sizeLine := by decide
theorem z3 : 3 <= sizeLine := by decide
theorem z4 : 4 <= sizeLine := by decide
theorem z0 : 0 <= sizeLine := by decide
end
end D
end
namespace D
open PySem L2 K0 Num
open PySem.W (Dat)
section
theorem sm_bd' {k : Nat} {ns : List Int} (h : Bd (2 ^ k) ns) (hk : k < 9000 := by decide) : Sm ns := sm_bd h (Nat.pow_lt_pow_right (by decide) hk)
theorem nz_of_ne4 {ns : List Int} (l : ns.length = 4) (h : ns ≠ [0, 0, 0, 0]) : ∃ n ∈ ns, n ≠ 0 := by
  obtain ⟨a, b, c, d, rfl⟩ := four_of l
  by_cases ha : a = 0
  . by_cases hb : b = 0
    . by_cases hc : c = 0
      . by_cases hd : d = 0
        . subst ha hb hc hd; exact absurd rfl h
        . exact ⟨d, by simp, hd⟩
      . exact ⟨c, by simp, hc⟩
    . exact ⟨b, by simp, hb⟩
  . exact ⟨a, by simp, ha⟩
theorem cpow10 {k : Int} (h0 : 0 <= k) (h1 : k <= 1000000) : CPow 10 k := ⟨h0, h1, by decide⟩
section
variable {p : Option Addr} {K : PySem.W.Frag} {τ : List Sl} {ta tb : TE}
theorem E1.neS {x y : Str} (ha : E1 p K ta τ (.dat (.str x))) (hb : E1 p K tb τ (.dat (.str y))) : E1 p K (tOp rNe ta tb) τ (.dat (.bool (!decide (x = y)))) := E1.op2 ha hb fun W H0 H u v Q o0 o r1 r2 q => by
  cases r1; cases r2
  refine ⟨rfl, q _ H Ev.refl o ?_⟩
  have e : decide (V.str x = V.str y) = decide (x = y) := by rw [decide_eq_decide]; exact ⟨fun h => by injection h, fun h => by rw [h]⟩
  rw [e]; exact .bool _
end
theorem T1.eqn {p : Option Addr} {K : PySem.W.Frag} {τ : List Sl} {tt : TT} {b c : Bool} (h : T1 p K tt τ b) (e : b = c) : T1 p K tt τ c := e ▸ h
section
variable {p : Option Addr} {K : PySem.W.Frag} {τ : List Sl} {te : TE} {tt : TT}
theorem T1.notT (h : T1 p K tt τ true) : T1 p K (tNot tt) τ false := T1.not h
theorem E1.isiT {ds : List Dat} (ha : E1 p K te τ (.dat (.tuple ds))) : E1 p K (tCB (fun xs H Q => ∃ x d b, xs = [x, .ty "tuple"] /\ Is K H x d /\ PySem.W.kitOne K (.type (tyD d)) (.type "tuple") = some b /\ Q (.bl b) H) (tCons te (tCons (tC (.ty "tuple")) tNil))) τ (.dat (.bool true)) := E1.isi ha rfl fun K => by rfl
theorem T1.neT {p : Option Addr} {K : PySem.W.Frag} {τ : List Sl} {ta tb : TE} {i j : Int} (ha : E1 p K ta τ (.dat (.int i))) (hb : E1 p K tb τ (.dat (.int j))) (e : i = j) : T1 p K (tTest (tOp rNe ta tb)) τ false := (T1.test (E1.ne ha hb)).eqn (by rw [decide_eq_true e]; rfl)
theorem T1.neDT {p : Option Addr} {K : PySem.W.Frag} {τ : List Sl} {ta tb : TE} {a b : Sl} {d : Dat} (ha : E1 p K ta τ a) (hb : E1 p K tb τ b) (ea : datOf a = some d) (eb : datOf b = some d) (k1 : PySem.W.kqdOk 9 d = true) : T1 p K (tTest (tOp (rEqD K true) ta tb)) τ false := (T1.test (E1.neD ha hb ea eb k1 k1)).eqn (by rw [deq_self]; rfl)
end
end
section
section
variable {p : Option Addr} {K : PySem.W.Frag} {W : Addr -> Prop} {L : List Addr} {σ : St} {H H0 H1 H2 : Hp} {τ τ' : List Sl} {ta tb te : TE} {tas : TA} {v : V} {s : Sl} {nx : List Sl -> Prop} {rt : Sl -> Prop} {t u : TS} {ds : List Dat} {E' : XK} {wi : TI}
theorem T.cmpI {g : Int -> Int -> Bool} {P Q : Int -> Prop} (ha : EI p K ta τ P) (hb : EI p K tb τ Q) : T p K (tTest (tOp (rI0 fun i j => .bl (g i j)) ta tb)) τ (fun b => ∃ i j, P i /\ Q j /\ b = g i j) := fun W L σ H R rs o q =>
  ha W L σ H _ rs o fun x H1 s ⟨i, e, h1⟩ e1 o1 rv1 => hb W L σ H1 _ (rs.ev e1 o.pw) o1 fun y H2 t ⟨j, e', h2⟩ e2 o2 rv2 => by
    subst e e'
    cases rv1.int_inv; cases rv2.int_inv
    exact ⟨i, j, rfl, rfl, _, rfl, q _ H2 ⟨i, j, h1, h2, rfl⟩ (e1.trans e2) o2⟩
theorem T.eqI {P Q : Int -> Prop} (ha : EI p K ta τ P) (hb : EI p K tb τ Q) : T p K (tTest (tOp rEq ta tb)) τ (fun b => ∃ i j, P i /\ Q j /\ b = decide (i = j)) := fun W L σ H R rs o q =>
  ha W L σ H _ rs o fun x H1 s ⟨i, e, h1⟩ e1 o1 rv1 => hb W L σ H1 _ (rs.ev e1 o.pw) o1 fun y H2 t ⟨j, e', h2⟩ e2 o2 rv2 => by
    subst e e'
    cases rv1.int_inv; cases rv2.int_inv
    refine ⟨rfl, _, rfl, q _ H2 ⟨i, j, h1, h2, ?_⟩ (e1.trans e2) o2⟩
    rw [decide_eq_decide]; exact ⟨fun h => by injection h, fun h => by rw [h]⟩
theorem EI.lit {i : Int} : EI p K (tC (.int i)) τ (fun k => k = i) := EI.of E1.int rfl
theorem EI.pick {ms : List Int} {P : Int -> Prop} (hl : E1 p K ta τ (.vw (ms.map .int))) (hd : EI p K tb τ P) (hp : ∀ d, P d -> 0 <= d /\ d < (ms.length : Int)) : EI p K (tOp (rIxL K) ta tb) τ (fun m => m ∈ ms) :=
  E.op2 (B := fun _ => True) (A := fun x => (Sl.vw (ms.map .int)) = x) hl (fun _ _ => hd) fun s t e ⟨d, e2, h2⟩ W H0 H x y R o0 o r1 r2 q => by
    subst e e2
    cases r2.int_inv
    obtain ⟨a, vs, rfl, h1, hz⟩ := r1
    have e := hz.inv
    subst e
    obtain ⟨d0, d1⟩ := hp d h2
    obtain ⟨m, hm, e⟩ := at_draw d0 d1
    exact ⟨a, _, d, _, rfl, rfl, h1.sq, e, q _ H _ ⟨m, rfl, hm⟩ Ev.refl o (.int _)⟩
theorem ints_of {P : Int -> Prop} : ∀ {es : List Dat}, (∀ (i : Nat) (e : Dat), es[i]? = some e -> ∃ n, e = .int n /\ P n) -> ∃ ns : List Int, es = ns.map .int /\ ∀ n ∈ ns, P n
  | [], _ => ⟨[], rfl, fun n hn => by cases hn⟩
  | e :: r, h => by
    obtain ⟨n, rfl, hn⟩ := h 0 e rfl
    obtain ⟨ns, rfl, hs⟩ := ints_of (es := r) fun i e he => h (i + 1) e (by simpa using he)
    exact ⟨n :: ns, rfl, fun m hm => (List.mem_cons.mp hm).elim (fun z => by rw [z]; exact hn) (hs m)⟩
noncomputable def EL (p : Option Addr) (K : PySem.W.Frag) (te : TE) (τ : List Sl) (n : Nat) (P : Int -> Prop) : Prop := E p K te τ (fun s => ∃ ns : List Int, s = .own (ns.map .int) /\ ns.length = n /\ ∀ m ∈ ns, P m)
theorem EL.comp {P : Int -> Prop} {n : Nat} (hw : Wk p K wi τ ds) (hn : ds.length = n) (turn : ∀ d, d ∈ ds -> EI p K te (.dat d :: τ) P) (hz : n <= sizeLine) : EL p K (tCompB 1 wi (gName 0) tAll te) τ n P := by
  refine E.mono (E.compC (Cd := fun _ e => ∃ i, e = .int i /\ P i) hw (fun d hd => E.mono (turn d hd) fun s ⟨i, e, hp⟩ => ⟨_, e, i, rfl, hp⟩) (by omega)) fun s ⟨es, e, l, h⟩ => ?_
  obtain ⟨ns, rfl, hs⟩ := ints_of (P := P) (es := es) fun i e he => let ⟨d, _, h⟩ := h i e he; h
  exact ⟨ns, e, by rw [List.length_map] at l; omega, hs⟩
theorem EL.row {n : Nat} {P : Int -> Prop} (h : EL p K te τ n P) : ER p K (tCB (fun xs H Q => ∃ p ys, xs = [.ref p] /\ ((SqL K H p ys /\ ∀ l, H l = none -> Q (.ref l) (upd H l (.tup ys))) \/ (SqT K H p ys /\ Q (.ref p) H))) (tCons te tNil)) τ (fun ns => ns.length = n /\ ∀ m ∈ ns, P m) := fun W L σ H Q rs o q =>
  h W L σ H _ rs o fun v H1 s ⟨ns, e, l, hp⟩ e1 o1 rv => by
    subst e
    obtain ⟨a, vs, rfl, h0, h1, h2⟩ := rv
    have e := h2.inv
    subst e
    refine ⟨a, _, rfl, .inl ⟨SqL.of h1, fun r hr => ?_⟩⟩
    have s := Same.new hr (.tup (ns.map V.int))
    exact q _ _ _ ⟨ns, rfl, l, hp⟩ (e1.trans (Ev.of s)) (o1.same s) (told upd_same)
theorem A.one {C : Sl -> Prop} (h : E p K te τ C) : A p K (tCons te tNil) τ (fun ss => ∃ s, ss = [s] /\ C s) := A.cons (C2 := fun _ ss => [] = ss) h (fun _ _ => A1.nil) fun s ss h1 h2 => ⟨s, by rw [<- h2], h1⟩
noncomputable def forget : Sl -> Sl
  | .pu => .un
  | s => s
theorem Rs.forget {q : Addr} (r : Rs (some q) W K H L σ τ) : Rs none W K H L σ (τ.map forget) := by
  induction r with
  | nil => exact .nil
  | un _ ih => exact .un ih
  | dat h _ ih => exact .dat h ih
  | pu h _ ih => exact .un ih
  | own h1 h2 h3 h4 h5 _ ih => exact .own h1 (fun z => by cases z) h3 h4 h5 ih
theorem Rs.learn {q : Addr} {i : Nat} (r : Rs none W K H L σ τ) (nq : H q = none) (hw : ∀ a, W a -> ∃ ys, H a = some (.lst ys)) : Rs (some q) (fun a => W a \/ a = q) K H L σ τ := by
  have n : ∀ a, (W a \/ a = q) -> ¬ W a -> H a = Option.none := fun a h z => (h.resolve_left z) ▸ nq
  induction r with
  | nil => exact .nil
  | un _ ih => exact .un ih
  | dat h _ ih =>
    refine .dat ?_ ih
    cases Dzs.wide (W' := fun a => W a \/ a = q) (.cons h .nil) n with
    | cons a _ => exact a
  | pu h _ ih => cases h
  | own h1 h2 h3 h4 h5 _ ih => exact .own (.inl h1) (fun z => by cases z; rw [nq] at h4; cases h4) h3 h4 (Dzs.wide h5 n) ih
theorem S.withPurse {sp : Sp} {ss : List Sl} {i : Nat} (ha : A1 none K tas τ ss) (hs : ∀ (W : Addr -> Prop) (H0 H : Hp) (vs : List V) (Q : VK), Rvs none W K H0 H vs ss -> (∀ (q : Addr) (H' : Hp), H q = none -> Same H H' -> Pu H' q -> Q (.ref q) H') -> sp (vs ++ []) H Q E')
    (m : ∀ q, S (some q) K u (τ.set i .pu) (fun τ' => nx (τ'.map forget)) rt) (hrt : ∀ s, rt s -> ∃ d, s = .dat d) : S none K (tSeq (tAsg (tCall sp [] E' tas) (gName i)) u) τ nx rt := fun W L σ H D r o q1 q2 =>
  ha W L σ H _ r o fun vs H1 ss e e1 o1 rv => by
    subst e
    refine hs W H H1 vs _ rv fun q H2 hq s2 pu => ?_
    have r1 := r.ev e1 o.pw
    have e2 : Ev (Pp (some q)) H1 H2 := Ev.of s2
    have hq0 : H q = none := o1.back e1 hq
    have r2 : Rs (some q) (fun a => W a \/ a = q) K H2 L σ τ := (Rs.learn (i := 0) r1 hq o1.al).ev e2 fun a ha => by cases ha; exact .inr rfl
    obtain ⟨L', l, r3⟩ := r2.set (v := .ref q) (s := .pu) (.inr (.inr ⟨rfl, q, rfl, rfl⟩)) i
    have o2 : Ok (some q) (fun a => W a \/ a = q) H2 := ⟨fun a ha => by cases ha; exact ⟨pu, .inr rfl⟩, fun a ha => by
      rcases ha with ha | rfl
      . obtain ⟨ys, h⟩ := o1.al a ha; exact ⟨ys, s2 _ _ h⟩
      . obtain ⟨x, y, h⟩ := pu; exact ⟨_, h⟩⟩
    have e02 : Ev W H H2 := (e1.ofP o).trans (Ev.of s2)
    have n1 : ∀ a, (W a \/ a = q) -> W a \/ H a = none := fun a ha => ha.imp id fun z => by rw [z]; exact hq0
    have al2 : ∀ a, W a -> ∃ ys, H2 a = some (.lst ys) := fun a ha => let ⟨ys, h⟩ := o1.al a ha; ⟨ys, s2 _ _ h⟩
    have hn : ∀ a, H2 a = none -> H a = none := fun a ha => e02.none al2 ha
    refine m q _ L' _ H2 _ r3 o2 (fun W4 L4 σ4 H4 τ4 c e4 o4 w4 n4 l4 r4 => ?_) (fun W4 H4 v s c e4 o4 w4 n4 rv => ?_)
    . exact q1 W4 L4 σ4 H4 _ c (e02.chain e4 n1) ⟨fun q h => (by cases h), o4.al⟩ (fun a ha => w4 a (.inl ha)) (fun a ha => (n4 a ha).elim (n1 a) fun z => .inr (hn a z)) (fun a ha => (l4 a ha).elim (fun z => .inl (l a z)) fun z => .inr (hn a z)) r4.forget
    . obtain ⟨d, rfl⟩ := hrt s c
      exact q2 W4 H4 v _ c (e02.chain e4 n1) ⟨fun q h => (by cases h), o4.al⟩ (fun a ha => w4 a (.inl ha)) (fun a ha => (n4 a ha).elim (n1 a) fun z => .inr (hn a z)) rv
theorem S.purse1 {i : Nat} {ns : List Int} (ha : A1 none K tas τ [.dat (.list (ns.map .int))]) (hl : ns.length <= 63) (hb : ∀ v ∈ ns, Builtin.Int.intBits v <= 2 ^ 20) (m : ∀ q, S (some q) K u (τ.set i .pu) (fun τ' => nx (τ'.map forget)) rt) (hrt : ∀ s, rt s -> ∃ d, s = .dat d) : S none K (tSeq (tAsg (tCall (spPurse K) [] E' tas) (gName i)) u) τ nx rt :=
  S.withPurse ha (fun W H0 H vs Q rv q => by
    cases rv with
    | cons a t =>
      cases t
      cases a with
      | lst h1 h2 =>
        have e := h2.inv
        subst e
        exact ⟨_, ns, rfl, h1.sq, hl, hb, q⟩) m hrt
variable {P : Program} {w : World} {mg : Str -> Option Value} {base : Heap}
theorem okL {x qual : Str} {st : Stmt} {f : Addr} {fd : FuncData} {N ps : List Str} {k : Nat} (F : Fun K x qual st f fd) (S0 : FnScope N ps (defScope st)) (len : ps.length = 1)
    (body : ∀ (cdv : Value) (A : Around) (outer : List Env) (s : Shared) (H : Hp) (E : XK), Room k (A.deeper (PyProof.Rows.envOfC qual (defScope st) s.heap.objs.size f cdv)) ->
      ∃ t, ZSs (cxOf CX0 P w K mg base N qual (defScope st) f cdv A outer s H E).nox (defBody st) t /\ ∀ ns : List Int, ns.length <= 63 -> (∀ v ∈ ns, Builtin.Int.intBits v <= 2 ^ 20) -> S none K t (.dat (.list (ns.map .int)) :: List.replicate (N.length - 1) .un) (fun _ => False) (fun s => s = .dat (.bool true))) : FnOk P w K mg base CX0 (k + 1) f fd ps (spLaw K) := by
  refine F.okZ S0 (fun vs H Q E h => ?_) (fun cdv A outer s H vs Q E hr h => ?_)
  . obtain ⟨a, ns, rfl, _⟩ := h; rw [len]; rfl
  . obtain ⟨a, ns, rfl, hS, hl, hb, q⟩ := h
    obtain ⟨t, hz, hs⟩ := body cdv A outer s H E hr
    refine ⟨t, hz, ?_⟩
    have z : Dzs (fun _ => True) K H [.ref a] [.list (ns.map .int)] := .cons (.lst (by
      rcases hS with h | h
      . exact .inl ⟨trivial, h⟩
      . exact .inr (.inr h)) (Dzs.ints _)) .nil
    have r0 : Rs none (fun _ => False) K H [] (L2.start N [.ref a]) (.dat (.list (ns.map .int)) :: List.replicate (N.length - 1) .un) := by
      unfold L2.start
      exact rs_start _ z fun a _ h => h
    refine hs ns hl hb (fun _ => False) [] _ H _ r0 ⟨fun q h => (by cases h), fun a h => False.elim h⟩ (fun W' L' σ' H' τ' e ev o' al n l r' => e.elim) (fun W' H' v s e ev o' al n rv => ?_)
    subst e
    cases (Rv.bl_inv (p := none) (H0 := H) rv)
    exact q H'
end
end
end D
section
namespace D
open PySem L2 K0
open PySem.W (Dat)
section
variable {p : Option Addr} {K : PySem.W.Frag} {W : Addr -> Prop} {L : List Addr} {σ : St} {H H1 H2 : Hp} {τ : List Sl} {te : TE} {tas : TA} {v : V} {s : Sl} {u : TS} {ds : List Dat} {wi : TI}
theorem E.compX {no : Nat} {g : TG} (hw : Wk p K wi τ ds) (own : Dat -> List Sl) (hg : ∀ d, d ∈ ds -> Gc p K no g d (own d)) (Cd : Nat -> Dat -> Prop)
    (turn : ∀ (i : Nat) d, ds[i]? = some d -> E p K te (own d ++ τ) (fun s => ∃ e, s = .dat e /\ Cd i e)) (hz : ds.length <= sizeLine) :
    E p K (tCompB no wi g tAll te) τ (fun s => ∃ es, s = .own es /\ es.length = ds.length /\ ∀ (i : Nat) (e : Dat), es[i]? = some e -> Cd i e) := fun W L σ H Q r o q => by
  refine hw W L σ H _ r o fun J H1 e1 o1 jd => ?_
  intro D hD
  have nD := o1.fresh hD
  have pD := o1.np hD
  have r1 := r.ev e1 o.pw
  have r1' : Rs p (fun b => W b \/ b = D) K H1 L σ τ := r1.wide (fun _ h => .inl h) fun b hb nb => (hb.resolve_left nb) ▸ hD
  refine ⟨fun i m σ' H' => m = ds.length - i /\ i <= ds.length /\ (∃ ρ, ρ.length = no /\ σ' = ρ ++ σ) /\ Ev (fun a => Pp p a \/ a = D) H1 H' /\ (∀ q, p = some q -> Pu H' q) /\ ∃ (vs : List V) (es : List Dat), H' D = some (.lst vs) /\ Dzs (fun b => ¬ (W b \/ b = D)) K H' vs es /\ es.length = i /\ ∀ (j : Nat) (e : Dat), es[j]? = some e -> Cd j e,
    ⟨ds.length, by omega, Nat.zero_le _, ⟨List.replicate no none, by simp, rfl⟩, ⟨fun b u nb h => by rw [upd_ne (fun z => nb (.inr z))]; exact h, (Same.new hD _).tm⟩, fun q hq => (o1.pu q hq).1.same (Same.new hD _), [], [], upd_same, .nil, rfl, fun j e h => by simp at h⟩, ?_⟩
  rintro i m σ' H' ⟨rfl, hi, ⟨ρ, lρ, rfl⟩, ev, pu, vs, es, hv, zv, le, hes⟩
  have evW : Ev W H1 H' := ⟨fun b u nb h => ev.keep b u (fun z => z.elim (fun y => nb (o1.pw b y)) fun y => by rw [y] at h; rw [hD] at h; cases h) h, ev.tm⟩
  have ok' : Ok p (fun b => W b \/ b = D) H' := ⟨fun q hq => ⟨pu q hq, .inl (o1.pw q hq)⟩, fun b hb => by
    by_cases z : b = D
    . subst z; exact ⟨_, hv⟩
    . by_cases y : p = some b
      . obtain ⟨x1, x2, h⟩ := pu b y; exact ⟨_, h⟩
      . obtain ⟨ys, h⟩ := o1.al b (hb.resolve_right z)
        exact ⟨ys, ev.keep _ _ (fun w => w.elim y z) h⟩⟩
  have evD : Ev (fun b => W b \/ b = D) H1 H' := evW.mono fun _ h => .inl h
  have rs' : Rs p (fun b => W b \/ b = D) K H' L σ τ := by
    refine Rs.evx r1' ev (fun a ha z => ?_) fun a u ha np z => ?_
    . rcases z with z | z
      . exact ha (.inl (o1.pw a z))
      . exact ha (.inr z)
    . rcases z with z | z
      . exact np z
      . rw [z, hD] at ha; cases ha
  obtain ⟨stop, each⟩ := jd (fun b => W b \/ b = D) H' evW fun a ha => ha.imp id fun z => by rw [z]; exact hD
  have o1f : H D = none := o1.back e1 hD
  by_cases hlt : i < ds.length
  . have hd : ds[i]? = some ds[i] := by simp [hlt]
    have hm : ds[i] ∈ ds := List.getElem_mem hlt
    obtain ⟨go, yl⟩ := each i _ hd
    refine .inr ⟨go, fun x H2 y => ?_⟩
    obtain ⟨s2, z2⟩ := yl x H2 y
    have ok2 := ok'.same s2
    refine hg _ hm _ L ρ σ τ H2 x _ lρ (rs'.ev (Ev.of s2) ok'.pw) z2 fun ρ' lρ' rs2 => ?_
    have hv4 : H2 D = some (.lst vs) := s2 _ _ hv
    have zv4 : Dzs (fun b => ¬ (W b \/ b = D)) K H2 vs es := zv.ev (W := fun _ => False) (Ev.of s2) fun _ _ h => h
    show tAll _ _ _
    unfold tAll
    dsimp only
    rw [if_pos rfl]
    refine turn i _ hd _ L _ H2 _ rs2 ok2 fun v H5 s c e5 o5 rv => ?_
    obtain ⟨e, rfl, ce⟩ := c
    have hv5 : H5 D = some (.lst vs) := e5.keep _ _ pD hv4
    have zv5 := zv4.ev e5 fun a ha z => ha (.inl (o1.pw a z))
    have ll : vs.length <= i := by rw [zv.len, le]; exact Nat.le_refl _
    have evu : Ev (fun b => b = D) H5 (upd H5 D (.lst (vs ++ [v]))) := ⟨fun b o n h => by rw [upd_ne n]; exact h, Tm.lst hv5 _⟩
    have pvH : Ev (fun a => Pp p a \/ a = D) H' H2 := Ev.of s2
    refine ⟨vs, hv5, by omega, ds.length - (i + 1), by omega, rfl, hlt, ⟨ρ', lρ', rfl⟩, (ev.trans (pvH.trans (e5.mono fun _ h => .inl h))).trans (evu.mono fun _ h => .inr h), fun q hq => ?_, vs ++ [v], es ++ [e], upd_same, (zv5.app (.cons rv .nil)).ev evu fun b hb z => hb (.inr z), ?_, fun j f hj => ?_⟩
    . obtain ⟨x1, x2, h⟩ := (o5.pu q hq).1
      exact ⟨x1, x2, by rw [upd_ne (fun z => pD (by rw [<- z]; exact hq))]; exact h⟩
    . rw [List.length_append, le]; rfl
    . by_cases hj2 : j < es.length
      . rw [List.getElem?_append_left hj2] at hj
        exact hes j f hj
      . rw [List.getElem?_append_right (by omega)] at hj
        have ej : j - es.length = 0 := by
          have := (List.getElem?_eq_some_iff.mp hj).1
          simp at this; omega
        rw [ej] at hj
        cases hj
        have : j = i := by omega
        rw [this]; exact ce
  . have e : i = ds.length := by omega
    subst e
    have evP : Ev (Pp p) H1 H' := ⟨fun b u nb h => ev.keep b u (fun z => z.elim nb fun y => by rw [y] at h; rw [hD] at h; cases h) h, ev.tm⟩
    refine .inl ⟨stop, q _ H' _ ⟨es, rfl, le, hes⟩ (e1.trans evP) (o1.ev evP pu) ⟨D, vs, rfl, o1f, hv, zv.mono fun a ha z => ha (.inl z)⟩⟩
theorem ext_of {es fs : List Dat} (l : es.length = fs.length) (h : ∀ (i : Nat) (e : Dat), es[i]? = some e -> fs[i]? = some e) : es = fs := by
  apply List.ext_getElem?
  intro i
  cases q : es[i]? with
  | none =>
    have := List.getElem?_eq_none_iff.mp q
    rw [List.getElem?_eq_none (by omega)]
  | some e => rw [h i e q]
theorem E1.compX {no : Nat} {g : TG} (fs : List Dat) (hw : Wk p K wi τ ds) (own : Dat -> List Sl) (hg : ∀ d, d ∈ ds -> Gc p K no g d (own d)) (hl : fs.length = ds.length) (turn : ∀ (i : Nat) d f, ds[i]? = some d -> fs[i]? = some f -> E1 p K te (own d ++ τ) (.dat f)) (hz : ds.length <= sizeLine) : E1 p K (tCompB no wi g tAll te) τ (.own fs) := by
  refine E.mono (E.compX hw own hg (fun i e => fs[i]? = some e) (fun i d hd => ?_) hz) fun s ⟨es, e, l, h⟩ => ?_
  . have hi : i < fs.length := by rw [hl]; exact (List.getElem?_eq_some_iff.mp hd).1
    have hf : fs[i]? = some fs[i] := by simp [hi]
    exact E.mono (turn i d _ hd hf) fun s hs => ⟨_, hs.symm, hf⟩
  . rw [e, ext_of (by rw [l, hl]) h]
theorem get2' {α : Type} {x1 x2 x : α} {i : Nat} (h : [x1, x2][i]? = some x) : (i = 0 /\ x1 = x) \/ (i = 1 /\ x2 = x) := by
  match i, h with
  | 0, h => exact .inl ⟨rfl, by simpa using h⟩
  | 1, h => exact .inr ⟨rfl, by simpa using h⟩
theorem E1.comp3 {d1 d2 d3 e1 e2 e3 : Dat} (hw : Wk p K wi τ [d1, d2, d3]) (h1 : E1 p K te (.dat d1 :: τ) (.dat e1)) (h2 : E1 p K te (.dat d2 :: τ) (.dat e2)) (h3 : E1 p K te (.dat d3 :: τ) (.dat e3)) : E1 p K (tCompB 1 wi (gName 0) tAll te) τ (.own [e1, e2, e3]) :=
  E1.compX [e1, e2, e3] hw (fun d => [.dat d]) (fun d _ => Gc.name) rfl (fun i d f hd hf => by
    rcases get3 hd with ⟨rfl, rfl⟩ | ⟨rfl, rfl⟩ | ⟨rfl, rfl⟩
    . cases hf; exact h1
    . cases hf; exact h2
    . cases hf; exact h3) (by show 3 <= sizeLine; decide)
theorem E1.compZ3 {x1 x2 x3 y1 y2 y3 e1 e2 e3 : Dat} (hw : Wk p K wi τ (zipD [x1, x2, x3] [y1, y2, y3])) (h1 : E1 p K te (.dat x1 :: .dat y1 :: τ) (.dat e1)) (h2 : E1 p K te (.dat x2 :: .dat y2 :: τ) (.dat e2)) (h3 : E1 p K te (.dat x3 :: .dat y3 :: τ) (.dat e3)) : E1 p K (tCompB 2 wi (gPair K) tAll te) τ (.own [e1, e2, e3]) :=
  E1.compX [e1, e2, e3] hw (fun d => [.dat (p1 d), .dat (p2 d)]) (fun d hd => by obtain ⟨x, y, rfl, _, _⟩ := zipD_mem hd; exact Gc.pair) rfl (fun i d f hd hf => by
    rcases get3 hd with ⟨rfl, rfl⟩ | ⟨rfl, rfl⟩ | ⟨rfl, rfl⟩
    . cases hf; exact h1
    . cases hf; exact h2
    . cases hf; exact h3) (by show 3 <= sizeLine; decide)
theorem rangeD_3 : rangeD 0 3 = [.int 0, .int 1, .int 2] := rfl
theorem Wk.r3 (h : A1 p K tas τ [.dat (.int 3)]) : Wk p K (iRng1 tas) τ [.int 0, .int 1, .int 2] := rangeD_3 ▸ Wk.rng h rfl
end
end D
end
namespace D
open PySem L2 K0 Num
open PySem.W (Dat)
section
noncomputable def qf (x : Rat) : List Int := [x.num, (x.den : Int)]
theorem qf_val (x : Rat) : qv x.num x.den = x := by
  unfold qv
  rw [<- Rat.divInt_eq_div, Rat.num_divInt_den]
theorem bt_some (n : Int) : ∃ k, Bt n k := ⟨n.natAbs, by unfold Bt; exact Nat.le_of_lt Nat.lt_two_pow_self⟩
theorem lo_qf (x : Rat) {k : Nat} (h1 : Bt x.num k) (h2 : Bt (x.den : Int) k) : Lo k x.num x.den x := ⟨by have := x.den_pos; omega, by rw [Int.natAbs_natCast]; exact x.reduced, h1, h2, qf_val x⟩
theorem lo_qf' (x : Rat) : ∃ k, Lo k x.num x.den x := by
  obtain ⟨k1, h1⟩ := bt_some x.num
  obtain ⟨k2, h2⟩ := bt_some (x.den : Int)
  exact ⟨max k1 k2, lo_qf x (h1.up (Nat.le_max_left _ _)) (h2.up (Nat.le_max_right _ _))⟩
theorem fr_qf {t b : Int} (hb : 0 < b) : fr t b = qf (qv t b) := by
  obtain ⟨t', b', e⟩ := fr_two t b
  obtain ⟨k1, h1⟩ := bt_some t
  obtain ⟨k2, h2⟩ := bt_some b
  have l := Lo.of hb (h1.up (Nat.le_max_left k1 k2)) (h2.up (Nat.le_max_right k1 k2)) e rfl
  obtain ⟨k, l2⟩ := lo_qf' (qv t b)
  rw [e]
  exact l.eq l2
theorem lo_is {k : Nat} {t b : Int} {x : Rat} (h : Lo k t b x) : [t, b] = qf x := by
  obtain ⟨k', l⟩ := lo_qf' x
  exact h.eq l
noncomputable def ptQ (x y z : Rat) : Dat := ptD (qf x) (qf y) (qf z)
noncomputable def PB (c : Nat) (x y z : Rat) : Prop := ∃ C T1 T2 T3 : Int, 0 < C /\ Bt C c /\ Bt T1 c /\ Bt T2 c /\ Bt T3 c /\ qv T1 C = x /\ qv T2 C = y /\ qv T3 C = z
theorem PB.up {c c' : Nat} {x y z : Rat} (h : PB c x y z) (hc : c <= c') : PB c' x y z := by
  obtain ⟨C, T1, T2, T3, h0, h1, h2, h3, h4, h5⟩ := h
  exact ⟨C, T1, T2, T3, h0, h1.up hc, h2.up hc, h3.up hc, h4.up hc, h5⟩
theorem lo_over {c : Nat} {T C : Int} {x : Rat} (h0 : 0 < C) (hC : Bt C c) (hT : Bt T c) (e : qv T C = x) : Lo c x.num x.den x := by
  obtain ⟨t, b, e2⟩ := fr_two T C
  have l := Lo.of h0 hT hC e2 e
  have := lo_is l
  injection this with h1 h2
  injection h2 with h2 _
  rw [h1, h2] at l; exact l
theorem PB.lo {c : Nat} {x y z : Rat} (h : PB c x y z) : Lo c x.num x.den x /\ Lo c y.num y.den y /\ Lo c z.num z.den z := by
  obtain ⟨C, T1, T2, T3, h0, h1, h2, h3, h4, e1, e2, e3⟩ := h
  exact ⟨lo_over h0 h1 h2 e1, lo_over h0 h1 h3 e2, lo_over h0 h1 h4 e3⟩
theorem qv_sop {r1 r2 r3 T1 T2 T3 C n : Int} (hC : C ≠ 0) (hn : n ≠ 0) : qv (sop [r1, r2, r3] [T1, T2, T3]) (C * n) = ((r1 : Rat) * qv T1 C + r2 * qv T2 C + r3 * qv T3 C) / n := by
  have h1 := cast_ne hC
  have h2 := cast_ne hn
  rw [sop3]
  unfold qv
  push_cast
  grind
theorem PB.turned {c m : Nat} {a b d e : Int} {x y z : Rat} (h : PB c x y z) (nz : ∃ n ∈ [a, b, d, e], n ≠ 0) (bd : Bd (2 ^ m) [a, b, d, e]) : PB (c + 2 * m + 5) (R1 a b d e x y z / N4 a b d e) (R2 a b d e x y z / N4 a b d e) (R3 a b d e x y z / N4 a b d e) := by
  obtain ⟨C, T1, T2, T3, h0, h1, h2, h3, h4, e1, e2, e3⟩ := h
  have np := nrm_pos (ns := [a, b, d, e]) rfl nz
  have cN : ((nrm [a, b, d, e] : Int) : Rat) = N4 a b d e := by unfold nrm N4; push_cast; rfl
  obtain ⟨W1, W2, W3⟩ := rows_btG bd
  have s3 : ∀ {r1 r2 r3 : Int}, (∀ n ∈ [r1, r2, r3], Bt n (2 * m + 3)) -> Bt (sop [r1, r2, r3] [T1, T2, T3]) (c + 2 * m + 5) := fun {r1 r2 r3} h => by
    rw [sop3]
    have a := ((h r1 (by simp)).mul h2)
    have b := ((h r2 (by simp)).mul h3)
    have c := ((h r3 (by simp)).mul h4)
    exact ((a.add b).add (c.up (by omega))).up (by omega)
  refine ⟨C * nrm [a, b, d, e], sop (rw1 a b d e) [T1, T2, T3], sop (rw2 a b d e) [T1, T2, T3], sop (rw3 a b d e) [T1, T2, T3], Int.mul_pos h0 np, (h1.mul (nrm_btG bd)).up (by omega), s3 W1, s3 W2, s3 W3, ?_, ?_, ?_⟩
  . unfold rw1; rw [qv_sop (by omega) (by omega), e1, e2, e3, cN]; unfold R1; push_cast; rfl
  . unfold rw2; rw [qv_sop (by omega) (by omega), e1, e2, e3, cN]; unfold K0.R2; push_cast; rfl
  . unfold rw3; rw [qv_sop (by omega) (by omega), e1, e2, e3, cN]; unfold R3; push_cast; rfl
theorem fr_tp {a b d e : Int} {x y z : Rat} (nz : ∃ n ∈ [a, b, d, e], n ≠ 0) {k1 k2 k3 : Nat} (l1 : Lo k1 x.num x.den x) (l2 : Lo k2 y.num y.den y) (l3 : Lo k3 z.num z.den z) :
    fr (tp (rw1 a b d e) x.num x.den y.num y.den z.num z.den) ((x.den : Int) * y.den * z.den * nrm [a, b, d, e]) = qf (R1 a b d e x y z / N4 a b d e) /\
    fr (tp (rw2 a b d e) x.num x.den y.num y.den z.num z.den) ((x.den : Int) * y.den * z.den * nrm [a, b, d, e]) = qf (R2 a b d e x y z / N4 a b d e) /\
    fr (tp (rw3 a b d e) x.num x.den y.num y.den z.num z.den) ((x.den : Int) * y.den * z.den * nrm [a, b, d, e]) = qf (R3 a b d e x y z / N4 a b d e) := by
  have np := nrm_pos (ns := [a, b, d, e]) rfl nz
  have cN : ((nrm [a, b, d, e] : Int) : Rat) = N4 a b d e := by unfold nrm N4; push_cast; rfl
  have h1 := l1.pos
  have h2 := l2.pos
  have h3 := l3.pos
  have bp : 0 < (x.den : Int) * y.den * z.den * nrm [a, b, d, e] := Int.mul_pos (Int.mul_pos (Int.mul_pos h1 h2) h3) np
  refine ⟨?_, ?_, ?_⟩
  . rw [fr_qf bp]; congr 1; unfold rw1; rw [qv_tp (by omega) (by omega) (by omega) (by omega), l1.val, l2.val, l3.val, cN]; unfold R1; push_cast; rfl
  . rw [fr_qf bp]; congr 1; unfold rw2; rw [qv_tp (by omega) (by omega) (by omega) (by omega), l1.val, l2.val, l3.val, cN]; unfold K0.R2; push_cast; rfl
  . rw [fr_qf bp]; congr 1; unfold rw3; rw [qv_tp (by omega) (by omega) (by omega) (by omega), l1.val, l2.val, l3.val, cN]; unfold R3; push_cast; rfl
section
variable {K : PySem.W.Frag} {W : Addr -> Prop} {H : Hp}
theorem pt_inv {N : Addr -> Prop} {t1 b1 t2 b2 t3 b3 : Int} {v : V} (h : Dz N K H v (ptD [t1, b1] [t2, b2] [t3, b3])) : ∃ a, v = .ref a /\ PtW K H a t1 b1 t2 b2 t3 b3 := by
  cases h with
  | tup h1 h2 =>
    cases h2 with
    | cons a t =>
      cases t with
      | cons b t =>
        cases t with
        | cons c t =>
          cases t
          obtain ⟨a1, rfl, z1⟩ := tup_inv (ns := [t1, b1]) a
          obtain ⟨a2, rfl, z2⟩ := tup_inv (ns := [t2, b2]) b
          obtain ⟨a3, rfl, z3⟩ := tup_inv (ns := [t3, b3]) c
          exact ⟨_, rfl, ⟨a1, a2, a3, h1, z1, z2, z3⟩⟩
theorem pt_dz {N : Addr -> Prop} {f1 f2 f3 : List Int} {r : Addr} (h : Pt H r f1 f2 f3) : Dz N K H (.ref r) (ptD f1 f2 f3) := by
  obtain ⟨p1, p2, p3, h0, h1, h2, h3⟩ := h.ex
  exact .tup (SqT.of h0) (.cons (told h1) (.cons (told h2) (.cons (told h3) .nil)))
end
theorem kq_ptQ {x y z : Rat} : PySem.W.kqdOk 9 (ptQ x y z) = true := kqd_pt
noncomputable def sa (x y z a b c e : Int) : Option (List Int) := if cr x y z b c e = [0, 0, 0] then some (if x = 0 then (if y = 0 then ps e (a * z) else ps c (a * y)) else ps b (a * x)) else none
end
section
noncomputable def isNo : Dat -> Bool
  | .none => true
  | _ => false
section
variable {p : Option Addr} {K : PySem.W.Frag} {τ : List Sl} {ta tb : TE}
theorem E1.notNo {d : Dat} (ha : E1 p K ta τ (.dat d)) (hb : E1 p K tb τ (.dat .none)) : E1 p K (tOp (fun x y H Q => y = .non /\ Q (.bl (!decide (x = .non))) H) ta tb) τ (.dat (.bool (!D.isNo d))) :=
  E1.op2 ha hb fun W H0 H x y Q o0 o r1 r2 q => by
    refine ⟨r2.non_inv, q _ H Ev.refl o ?_⟩
    cases r1 <;> exact .bool _
end
end
section
noncomputable def lvD (T1 T2 T3 C : Int) : Dat := .tuple [tI [T1, T2, T3], .int C]
structure LB (c : Nat) (T1 T2 T3 C : Int) (x y z : Rat) : Prop where
  pos : 0 < C
  bc : Bt C c
  b1 : Bt T1 c
  b2 : Bt T2 c
  b3 : Bt T3 c
  e1 : qv T1 C = x
  e2 : qv T2 C = y
  e3 : qv T3 C = z
theorem LB.pb {c : Nat} {T1 T2 T3 C : Int} {x y z : Rat} (h : LB c T1 T2 T3 C x y z) : PB c x y z := ⟨C, T1, T2, T3, h.pos, h.bc, h.b1, h.b2, h.b3, h.e1, h.e2, h.e3⟩
noncomputable def lcm3 (x y z : Rat) : Nat := Nat.lcm (Nat.lcm x.den y.den) z.den
theorem lcm3_pos (x y z : Rat) : 0 < lcm3 x y z := Nat.lcm_pos (Nat.lcm_pos x.den_pos y.den_pos) z.den_pos
theorem lcm3_d1 (x y z : Rat) : x.den ∣ lcm3 x y z := Nat.dvd_trans (Nat.dvd_lcm_left _ _) (Nat.dvd_lcm_left _ _)
theorem lcm3_d2 (x y z : Rat) : y.den ∣ lcm3 x y z := Nat.dvd_trans (Nat.dvd_lcm_right _ _) (Nat.dvd_lcm_left _ _)
theorem lcm3_d3 (x y z : Rat) : z.den ∣ lcm3 x y z := Nat.dvd_lcm_right _ _
noncomputable def lev (x y z : Rat) : Dat := lvD (x.num * ((lcm3 x y z : Int) / x.den)) (y.num * ((lcm3 x y z : Int) / y.den)) (z.num * ((lcm3 x y z : Int) / z.den)) (lcm3 x y z)
theorem qv_lev {x : Rat} {L : Nat} (hL : 0 < L) (h : x.den ∣ L) : qv (x.num * ((L : Int) / x.den)) L = x := by
  obtain ⟨u, rfl⟩ := h
  have hd := x.den_pos
  have hu : u ≠ 0 := fun z => by subst z; simp at hL
  have e : ((x.den * u : Nat) : Int) / (x.den : Int) = u := by rw [Int.natCast_mul]; exact Int.mul_ediv_cancel_left _ (by omega)
  rw [e]
  have := qv_of (t := x.num * u) (b := ((x.den * u : Nat) : Int)) (t' := x.num) (b' := x.den) (by have : 0 < x.den * u := Nat.mul_pos hd (by omega); omega) (by omega) (by rw [Int.natCast_mul]; grind)
  rw [this, qf_val]
theorem top_le {T C t L : Int} {c : Nat} (hC : 0 < C) (hL : 0 < L) (hd : L ∣ C) (e : qv t L = qv T C) (hT : Bt T c) : Bt t c := by
  have h := qv_cross (by omega) (by omega) e
  obtain ⟨u, hu⟩ := hd
  have up : u ≠ 0 := fun z => by subst z; simp at hu; omega
  have h2 : t * u = T := by
    have : L * (t * u) = L * T := by
      have e1 : L * (t * u) = t * (L * u) := by grind
      rw [e1, <- hu, h, Int.mul_comm]
    exact Int.eq_of_mul_eq_mul_left (by omega) this
  unfold Bt at *
  rw [<- h2, Int.natAbs_mul] at hT
  exact Nat.le_trans (Nat.le_mul_of_pos_right _ (by omega)) hT
theorem lev_lb {c : Nat} {x y z : Rat} (h : PB c x y z) : LB c (x.num * ((lcm3 x y z : Int) / x.den)) (y.num * ((lcm3 x y z : Int) / y.den)) (z.num * ((lcm3 x y z : Int) / z.den)) (lcm3 x y z) x y z := by
  obtain ⟨l1, l2, l3⟩ := h.lo
  obtain ⟨C, T1, T2, T3, h0, h1, h2, h3, h4, e1, e2, e3⟩ := h
  have Lp := lcm3_pos x y z
  have d1 := low_dvd l1 h0 e1
  have d2 := low_dvd l2 h0 e2
  have d3 := low_dvd l3 h0 e3
  have dL : (lcm3 x y z : Int) ∣ C := by
    obtain ⟨M, rfl⟩ := Int.eq_ofNat_of_zero_le (Int.le_of_lt h0)
    exact Int.natCast_dvd_natCast.mpr (Nat.lcm_dvd (Nat.lcm_dvd (Int.natCast_dvd_natCast.mp d1) (Int.natCast_dvd_natCast.mp d2)) (Int.natCast_dvd_natCast.mp d3))
  have q1 := qv_lev Lp (lcm3_d1 x y z)
  have q2 := qv_lev Lp (lcm3_d2 x y z)
  have q3 := qv_lev Lp (lcm3_d3 x y z)
  exact ⟨by omega, bt_dvd dL h0 h1, top_le h0 (by omega) dL (q1.trans e1.symm) h2, top_le h0 (by omega) dL (q2.trans e2.symm) h3, top_le h0 (by omega) dL (q3.trans e3.symm) h4, q1, q2, q3⟩
noncomputable def RLev : List Dat -> Dat -> Prop := fun ds d => ∃ (c : Nat) (x y z : Rat), ds = [ptQ x y z] /\ PB c x y z /\ c <= 3000 /\ d = lev x y z
noncomputable def RLow : List Dat -> Dat -> Prop := fun ds d => ∃ (c : Nat) (T1 T2 T3 C : Int) (x y z : Rat), ds = [lvD T1 T2 T3 C] /\ LB c T1 T2 T3 C x y z /\ c < 8990 /\ d = ptQ x y z
noncomputable def RLAdd : List Dat -> Dat -> Prop := fun ds d => ∃ (c : Nat) (T1 T2 T3 C S1 S2 S3 B : Int) (x y z u v w : Rat), ds = [lvD T1 T2 T3 C, lvD S1 S2 S3 B] /\ LB c T1 T2 T3 C x y z /\ LB c S1 S2 S3 B u v w /\ c <= 4400 /\ d = lvD (T1 * B + S1 * C) (T2 * B + S2 * C) (T3 * B + S3 * C) (C * B)
noncomputable def RLNeg : List Dat -> Dat -> Prop := fun ds d => ∃ (T1 T2 T3 C : Int), ds = [lvD T1 T2 T3 C] /\ d = lvD (-T1) (-T2) (-T3) C
theorem LB.add {c e : Nat} {T1 T2 T3 C S1 S2 S3 B : Int} {x y z u v w : Rat} (h : LB c T1 T2 T3 C x y z) (g : LB e S1 S2 S3 B u v w) : LB (c + e + 1) (T1 * B + S1 * C) (T2 * B + S2 * C) (T3 * B + S3 * C) (C * B) (x + u) (y + v) (z + w) := by
  have hC := cast_ne (show C ≠ 0 by have := h.pos; omega)
  have hB := cast_ne (show B ≠ 0 by have := g.pos; omega)
  have bb : ∀ {T S : Int}, Bt T c -> Bt S e -> Bt (T * B + S * C) (c + e + 1) := fun hT hS => ((hT.mul g.bc).add ((hS.mul h.bc).up (by omega))).up (by omega)
  have qq : ∀ {T S : Int} {p q : Rat}, qv T C = p -> qv S B = q -> qv (T * B + S * C) (C * B) = p + q := fun {T S p q} h1 h2 => by
    rw [<- h1, <- h2]; unfold qv; push_cast; grind
  exact ⟨Int.mul_pos h.pos g.pos, (h.bc.mul g.bc).up (by omega), bb h.b1 g.b1, bb h.b2 g.b2, bb h.b3 g.b3, qq h.e1 g.e1, qq h.e2 g.e2, qq h.e3 g.e3⟩
theorem LB.neg {c : Nat} {T1 T2 T3 C : Int} {x y z : Rat} (h : LB c T1 T2 T3 C x y z) : LB c (-T1) (-T2) (-T3) C (-x) (-y) (-z) := by
  have hC := cast_ne (show C ≠ 0 by have := h.pos; omega)
  have qq : ∀ {T : Int} {p : Rat}, qv T C = p -> qv (-T) C = -p := fun {T p} h1 => by rw [<- h1]; unfold qv; push_cast; grind
  exact ⟨h.pos, h.bc, Bt.neg' h.b1, Bt.neg' h.b2, Bt.neg' h.b3, qq h.e1, qq h.e2, qq h.e3⟩
theorem LB.turned {c m : Nat} {a b d e T1 T2 T3 C : Int} {x y z : Rat} (h : LB c T1 T2 T3 C x y z) (nz : ∃ n ∈ [a, b, d, e], n ≠ 0) (bd : Bd (2 ^ m) [a, b, d, e]) : LB (c + 2 * m + 5) (sop (rw1 a b d e) [T1, T2, T3]) (sop (rw2 a b d e) [T1, T2, T3]) (sop (rw3 a b d e) [T1, T2, T3]) (C * sop [a, b, d, e] [a, b, d, e]) (K0.R1 a b d e x y z / N4 a b d e) (K0.R2 a b d e x y z / N4 a b d e) (K0.R3 a b d e x y z / N4 a b d e) := by
  obtain ⟨h0, h1, h2, h3, h4, e1, e2, e3⟩ := h
  have np := nrm_pos (ns := [a, b, d, e]) rfl nz
  have cN : ((nrm [a, b, d, e] : Int) : Rat) = N4 a b d e := by unfold nrm N4; push_cast; rfl
  obtain ⟨W1, W2, W3⟩ := rows_btG bd
  have s3 : ∀ {r1 r2 r3 : Int}, (∀ n ∈ [r1, r2, r3], Bt n (2 * m + 3)) -> Bt (sop [r1, r2, r3] [T1, T2, T3]) (c + 2 * m + 5) := fun {r1 r2 r3} h => by
    rw [sop3]
    have a := ((h r1 (by simp)).mul h2)
    have b := ((h r2 (by simp)).mul h3)
    have c := ((h r3 (by simp)).mul h4)
    exact ((a.add b).add (c.up (by omega))).up (by omega)
  rw [sop4]
  refine ⟨Int.mul_pos h0 np, (h1.mul (nrm_btG bd)).up (by omega), s3 W1, s3 W2, s3 W3, ?_, ?_, ?_⟩
  . unfold rw1; rw [qv_sop (by omega) (by omega), e1, e2, e3, cN]; unfold K0.R1; push_cast; rfl
  . unfold rw2; rw [qv_sop (by omega) (by omega), e1, e2, e3, cN]; unfold K0.R2; push_cast; rfl
  . unfold rw3; rw [qv_sop (by omega) (by omega), e1, e2, e3, cN]; unfold K0.R3; push_cast; rfl
section
variable {p : Option Addr} {K : PySem.W.Frag} {W : Addr -> Prop} {H : Hp} {τ : List Sl} {tas : TA} {E' : XK}
theorem lv_inv {N : Addr -> Prop} {T1 T2 T3 C : Int} {v : V} (h : Dz N K H v (lvD T1 T2 T3 C)) : ∃ a q, v = .ref a /\ SqT K H a [.ref q, .int C] /\ SqT K H q ([T1, T2, T3].map V.int) := by
  cases h with
  | tup h1 h2 =>
    cases h2 with
    | cons a t =>
      cases t with
      | cons b t =>
        cases t
        obtain ⟨q, rfl, z⟩ := tup_inv (ns := [T1, T2, T3]) a
        cases b
        exact ⟨_, q, rfl, h1, z⟩
theorem E1.cLT {c m : Nat} {a b d e T1 T2 T3 C : Int} {x y z : Rat} (ha : A1 p K tas τ [.dat (tI [a, b, d, e]), .dat (lvD T1 T2 T3 C)]) (bd : Bd (2 ^ m) [a, b, d, e]) (h : LB c T1 T2 T3 C x y z) (hm : m <= 1000 := by decide) (hc : c <= 3000 := by decide) :
    E1 p K (tCall (spLT K) [] E' tas) τ (.dat (lvD (sop (rw1 a b d e) [T1, T2, T3]) (sop (rw2 a b d e) [T1, T2, T3]) (sop (rw3 a b d e) [T1, T2, T3]) (C * sop [a, b, d, e] [a, b, d, e]))) := fun W L σ H Q rs o q => ha W L σ H _ rs o fun vs H1 ss e0 e1 o1 rv => by
  subst e0
  cases rv with
  | cons u t =>
    cases t with
    | cons v t =>
      cases t
      obtain ⟨r, rfl, z1⟩ := tup_inv u
      obtain ⟨r2, q2, rfl, z2, z3⟩ := lv_inv v
      refine ⟨r, r2, q2, a, b, d, e, T1, T2, T3, C, rfl, z1, bdm bd hm, z2, z3, h.b1.up (by omega), h.b2.up (by omega), h.b3.up (by omega), h.bc.up hc, fun r3 q3 H' s h4 h5 => ?_⟩
      exact q _ H' _ rfl (e1.trans (Ev.of s)) (o1.same s) (.tup (SqT.of h4) (.cons (told h5) (.cons (.int _) .nil)))
theorem EI.cCM {C : Int} {bs : List Int} (ha : A1 p K tas τ [.vw (bs.map .int)]) (hb : ∀ b ∈ bs, 0 < b /\ b ∣ C) (h0 : 0 < C) (bC : Bt C 3000) : EI p K (tCall (spCM K) [] E' tas) τ (fun L => 0 < L /\ (∀ b ∈ bs, b ∣ L) /\ L ∣ C) := fun W L σ H Q rs o q => ha W L σ H _ rs o fun vs H1 ss e e1 o1 rv => by
  subst e
  cases rv with
  | cons a t =>
    cases t
    obtain ⟨a, vs, rfl, h1, h2⟩ := a
    have e := h2.inv
    subst e
    exact ⟨a, bs, C, rfl, h1.sq, hb, h0, bC, fun L H' s l0 l1 l2 => q _ H' _ ⟨L, rfl, l0, l1, l2⟩ (e1.trans (Ev.of s)) (o1.same s) (.int _)⟩
end
end
section
noncomputable abbrev Q1 (a b d e : Int) (x y z : Rat) : Rat := K0.R1 a b d e x y z / N4 a b d e
noncomputable abbrev Q2 (a b d e : Int) (x y z : Rat) : Rat := K0.R2 a b d e x y z / N4 a b d e
noncomputable abbrev Q3 (a b d e : Int) (x y z : Rat) : Rat := K0.R3 a b d e x y z / N4 a b d e
theorem PB.add {c k : Nat} {x y z u v w : Rat} (h : PB c x y z) (g : PB k u v w) : PB (c + k + 1) (x + u) (y + v) (z + w) := ((lev_lb h).add (lev_lb g)).pb
theorem PB.neg {c : Nat} {x y z : Rat} (h : PB c x y z) : PB c (-x) (-y) (-z) := (lev_lb h).neg.pb
noncomputable def RAdded : List Dat -> Dat -> Prop := fun ds r => ∃ (c : Nat) (x y z u v w : Rat), ds = [ptQ x y z, ptQ u v w] /\ PB c x y z /\ PB c u v w /\ c <= 3000 /\ r = ptQ (x + u) (y + v) (z + w)
noncomputable def RIsPoint : List Dat -> Dat -> Prop := fun ds r => ∃ (x y z : Rat), ds = [ptQ x y z, ptQ x y z] /\ r = .bool true
theorem qf_add {k : Nat} {x u : Rat} (h : Lo k x.num x.den x) (g : Lo k u.num u.den u) : fr (x.num * (u.den : Int) + u.num * (x.den : Int)) ((x.den : Int) * u.den) = qf (x + u) := by
  have h1 := h.pos
  have h2 := g.pos
  rw [fr_qf (Int.mul_pos h1 h2)]
  congr 1
  have e1 := h.val
  have e2 := g.val
  have c1 := cast_ne (show (x.den : Int) ≠ 0 by omega)
  have c2 := cast_ne (show (u.den : Int) ≠ 0 by omega)
  generalize (x.num : Int) = X at *
  generalize (u.num : Int) = U at *
  generalize (x.den : Int) = Y at *
  generalize (u.den : Int) = V at *
  rw [<- e1, <- e2]
  unfold qv; push_cast; grind
section
variable {p : Option Addr} {K : PySem.W.Frag} {W : Addr -> Prop} {H : Hp} {τ : List Sl} {tas : TA} {E' : XK}
theorem E1.cMade {t b : Int} (ha : A1 p K tas τ [.dat (.int t), .dat (.int b)]) (h0 : 0 < b) (hb : Bt b 8000) : E1 p K (tCall (spMade K) [] E' tas) τ (.dat (tI (fr t b))) :=
  E.ci2 ha fun H Q q => ⟨t, b, rfl, h0, hb, fun r H' s h => q _ H' _ rfl s fun W => told h⟩
theorem E1.cLTurned {c m : Nat} {a b d e : Int} {x y z : Rat} (ha : A1 p K tas τ [.dat (tI [a, b, d, e]), .dat (ptQ x y z)]) (nz : ∃ n ∈ [a, b, d, e], n ≠ 0) (bd : Bd (2 ^ m) [a, b, d, e]) (hb : PB c x y z) (hm : m <= 1000 := by decide) (hc : c <= 1000 := by decide) :
    E1 p K (tCall (spTurned K) [] E' tas) τ (.dat (ptQ (Q1 a b d e x y z) (Q2 a b d e x y z) (Q3 a b d e x y z))) := fun W L σ H Q rs o q => ha W L σ H _ rs o fun vs H1 ss e0 e1 o1 rv => by
  subst e0
  cases rv with
  | cons u t =>
    cases t with
    | cons v t =>
      cases t
      obtain ⟨r, rfl, z1⟩ := tup_inv u
      obtain ⟨r2, rfl, z2⟩ := pt_inv v
      obtain ⟨l1, l2, l3⟩ := hb.lo
      refine ⟨r, r2, a, b, d, e, _, _, _, _, _, _, rfl, z1, nz, bdm bd hm, z2, lofrs l1 l2 l3 hc, fun r3 H' s h => ?_⟩
      obtain ⟨f1, f2, f3⟩ := fr_tp nz l1 l2 l3
      rw [f1, f2, f3] at h
      exact q _ H' _ rfl (e1.trans (Ev.of s)) (o1.same s) (pt_dz h)
end
end
noncomputable def MM (p q r x y z w v : Rat) : Rat := v - 2 * (p * x + q * y + r * z) / (p * p + q * q + r * r) * w
noncomputable abbrev M1 (p q r : Int) (x y z : Rat) : Rat := MM p q r x y z p x
end D
section
namespace D
open PySem PySem.Spec PyProof.Rows L2 K0 Num
open PySem.W (Dat)
noncomputable def gLst (K : PySem.W.Frag) (n : Nat) (t : TGs) : TG := fun v σ H Q => ∃ a xs, v = .ref a /\ SqL K H a xs /\ xs.length = n /\ t xs σ H Q
section
variable {X : Cx} {pos : Pos}
theorem pg_lst {es : List Expr} {k : Nat} {t : TGs} {n : Nat} (hc : X.calm = true) (h : PGs X es t)
    (hn : (assignEach es X.env).length = n := by rfl) (hst : (assignEach es X.env).findIdx? (·.1) = none := by rfl) : PG X (.Tuple es k pos) (gLst X.K n t) := by
  intro pins s σ H v u Q I r hw
  obtain ⟨a, xs, e1, hq, hl, hw⟩ := hw
  subst e1
  cases r
  obtain ⟨its, rv, ⟨o, m, h1, h2, h3, h4⟩, hz⟩ := I.list hq
  rw [assign_Tuple]
  refine wpAny_bind (wpAny_standAt ?_)
  unfold unpack
  rw [hst, show (assignEach es X.env).length = its.toArray.size by simp [hn, <- hl, rv.length]]
  refine wpAny_bind (wpAny_holding (PySem.W.kun_itemsOf (I.ok.hd hc) ⟨o, h1, h2, m, h4⟩ fun h' hx => ?_))
  have I1 : Inv X pins σ H { s with heap := h' } := I.kept (t' := s.toks) fun b o e => hx b o (Nat.ne_of_lt (Heap.lt_size e)) e
  exact h pins _ σ H xs _ Q I1 (by simpa using rv) hw
end
theorem zg_lst {X : Cx} {pos : Pos} {es : List Expr} {k : Nat} {t : TGs} {n : Nat} (hc : X.calm = true) (h : ZGs X es t) (hn : (assignEach es X.env).length = n := by rfl) (hst : (assignEach es X.env).findIdx? (·.1) = none := by rfl) : ZG X (.Tuple es k pos) (gLst X.K n t) := ⟨pg_lst hc h.out hn hst⟩
section
variable {K : PySem.W.Frag} {u : TS}
end
end D
end
namespace D
open PySem L2 K0 Num
open PySem.W (Dat)
section
section
variable {x y z : Rat}
end
section
variable {W : Addr -> Prop}
end
theorem kq_ptQ9 {x y z : Rat} : PySem.W.kqdOk 9 (ptQ x y z) = true := kq_ptQ
section
variable {x y z : Rat}
end
end
section
noncomputable def iOr (a b : TI) : TI := fun σ H R => a σ H R \/ b σ H R
theorem zi_or {X : Cx} {tg e : Expr} {a b : TI} (ha : ZI X tg e a) (hb : ZI X tg e b) : ZI X tg e (iOr a b) := ⟨fun pins s σ H R I h => h.elim (fun z => ha.out pins s σ H R I z) fun z => hb.out pins s σ H R I z⟩
section
variable {p : Option Addr} {K : PySem.W.Frag} {W : Addr -> Prop} {H : Hp} {τ : List Sl} {tas : TA} {E' : XK} {ds : List Dat} {a b : TI}
theorem Wk.orL (h : Wk p K a τ ds) : Wk p K (iOr a b) τ ds := fun W L σ H R r o q => .inl (h W L σ H R r o q)
theorem Wk.orR (h : Wk p K b τ ds) : Wk p K (iOr a b) τ ds := fun W L σ H R r o q => .inr (h W L σ H R r o q)
theorem EI.drawA {C : List Sl -> Prop} {M : Int} (ha : A p K tas τ C) (hC : ∀ ss, C ss -> ∃ m : Int, ss = [.pu, .dat (.int m)] /\ 0 < m /\ m <= M) (hM : M < 2 ^ 200) : EI p K (tCall spDraw [] E' tas) τ (fun d => 0 <= d /\ d < M) := fun W L σ H Q rs o q => ha W L σ H _ rs o fun vs H1 ss c e1 o1 rv => by
  obtain ⟨m, rfl, h0, h1⟩ := hC ss c
  cases rv with
  | cons a t =>
    cases t with
    | cons b t =>
      cases t
      obtain ⟨q0, rfl, rfl⟩ := a
      cases b.int_inv
      have pu := (o1.pu q0 rfl).1
      refine ⟨q0, m, rfl, pu, h0, by omega, fun d H' d0 d1 sb pu' => ?_⟩
      have ev := sb_ev sb pu
      exact q _ H' _ ⟨d, rfl, d0, by omega⟩ (e1.trans ev) (o1.ev ev fun q hq => by cases hq; exact pu') (.int _)
theorem EI.drawP {ms : List Int} {tb : TE} {M : Int} (hb : EI p K tb τ (fun m => m ∈ ms)) (hm : ∀ m ∈ ms, 0 < m /\ m <= M) (hM : M < 2 ^ 200) {i : Nat} (hi : τ[i]? = some .pu) : EI p K (tCall spDraw [] E' (tCons (tVar i) (tCons tb tNil))) τ (fun d => 0 <= d /\ d < M) := by
  refine EI.drawA (C := fun ss => ∃ m : Int, ss = [.pu, .dat (.int m)] /\ m ∈ ms) (A.cons (C1 := fun s => .pu = s) (E1.varP hi) (fun _ _ => A.one hb) ?_) (fun ss ⟨m, e, h⟩ => ⟨m, e, hm m h⟩) hM
  rintro s ss rfl ⟨s', rfl, m, rfl, h⟩
  exact ⟨m, rfl, h⟩
theorem E.cMadeA {C : List Sl -> Prop} {P : Int -> Int -> Prop} (ha : A p K tas τ C) (hC : ∀ ss, C ss -> ∃ t b : Int, ss = [.dat (.int t), .dat (.int b)] /\ P t b /\ 0 < b /\ Bt b 8000) : E p K (tCall (spMade K) [] E' tas) τ (fun s => ∃ t b : Int, s = .dat (tI (qf (qv t b))) /\ P t b) := fun W L σ H Q rs o q => ha W L σ H _ rs o fun vs H1 ss c e1 o1 rv => by
  obtain ⟨t, b, rfl, hp, h0, hb⟩ := hC ss c
  cases rv with
  | cons u v =>
    cases v with
    | cons v w =>
      cases w
      cases u.int_inv
      cases v.int_inv
      refine ⟨t, b, rfl, h0, hb, fun r H' s h => ?_⟩
      rw [fr_qf h0] at h
      exact q _ H' _ ⟨t, b, rfl, hp⟩ (e1.trans (Ev.of s)) (o1.same s) (told h)
end
noncomputable def Nb (w : Rat) : Prop := ∃ t b : Int, qv t b = w /\ 0 < b /\ Bt t 32 /\ Bt b 8
theorem pb_nb {x y z : Rat} (h1 : Nb x) (h2 : Nb y) (h3 : Nb z) : PB 120 x y z := by
  obtain ⟨t1, b1, e1, p1, u1, v1⟩ := h1
  obtain ⟨t2, b2, e2, p2, u2, v2⟩ := h2
  obtain ⟨t3, b3, e3, p3, u3, v3⟩ := h3
  subst e1 e2 e3
  refine ⟨b1 * b2 * b3, t1 * (b2 * b3), t2 * (b1 * b3), t3 * (b1 * b2), Int.mul_pos (Int.mul_pos p1 p2) p3, ((v1.mul v2).mul v3).up (by decide), (u1.mul (v2.mul v3)).up (by decide), (u2.mul (v1.mul v3)).up (by decide), (u3.mul (v1.mul v2)).up (by decide), ?_, ?_, ?_⟩
  . exact qv_of (by have := Int.mul_pos (Int.mul_pos p1 p2) p3; omega) (by omega) (by grind)
  . exact qv_of (by have := Int.mul_pos (Int.mul_pos p1 p2) p3; omega) (by omega) (by grind)
  . exact qv_of (by have := Int.mul_pos (Int.mul_pos p1 p2) p3; omega) (by omega) (by grind)
end
noncomputable def RSz : List Dat -> Dat -> Prop := fun ds d => ∃ p q r : Int, ds = [tI [p, q, r]] /\ Bd (2 ^ 1000) [p, q, r] /\ d = .int (sop [p, q, r] [p, q, r])
noncomputable def RTms : List Dat -> Dat -> Prop := fun ds d => ∃ n p q r : Int, ds = [.int n, tI [p, q, r]] /\ Bd (2 ^ 1000) [p, q, r] /\ Bt n 3000 /\ d = tI [n * p, n * q, n * r]
noncomputable def RShift : List Dat -> Dat -> Prop := fun ds g => ∃ (m c k : Nat) (a b d e T1 T2 T3 C S1 S2 S3 B : Int) (x y z u v w : Rat), ds = [tI [a, b, d, e], lvD T1 T2 T3 C, lvD S1 S2 S3 B] /\ (∃ n ∈ [a, b, d, e], n ≠ 0) /\ Bd (2 ^ m) [a, b, d, e] /\ LB c T1 T2 T3 C x y z /\ LB k S1 S2 S3 B u v w /\ m <= 1000 /\ c <= 3000 /\ k <= 4400 /\ c + 2 * m + 5 <= 4400 /\ g = ptQ (u + -Q1 a b d e x y z) (v + -Q2 a b d e x y z) (w + -Q3 a b d e x y z)
noncomputable def ftR (k l N v D w c : Rat) : Rat := (k * (N * v - D * w) + l * c) / (2 * k * N)
noncomputable abbrev F1 (p q r k l : Int) (x y z : Rat) : Rat := ftR k l ((p : Rat) * p + q * q + r * r) x (p * x + q * y + r * z) p (q * z - r * y)
noncomputable abbrev F2 (p q r k l : Int) (x y z : Rat) : Rat := ftR k l ((p : Rat) * p + q * q + r * r) y (p * x + q * y + r * z) q (r * x - p * z)
noncomputable abbrev F3 (p q r k l : Int) (x y z : Rat) : Rat := ftR k l ((p : Rat) * p + q * q + r * r) z (p * x + q * y + r * z) r (p * y - q * x)
noncomputable abbrev sl (p q r : Int) (x y z : Rat) : Rat := ((p : Rat) * x + q * y + r * z) / ((p : Rat) * p + q * q + r * r)
end D
section
namespace L2
open PySem PySem.Spec PyProof.Rows
noncomputable def SI (b : Bool) (h : Heap) (it l : Addr) (i : Nat) : Prop := match b with | true => h.IsListIter it l i | false => h.IsTupleIter it l i
noncomputable def SQ (b : Bool) (h : Heap) (l : Addr) (xs : Array Value) : Prop := match b with | true => h.IsList l xs | false => h.IsTuple l xs
theorem SI.extBut {b : Bool} {h h' : Heap} {it l c : Addr} {i : Nat} (s : SI b h it l i) (e : Heap.ExtBut c h h') (n : it ≠ c) : SI b h' it l i := by
  cases b
  . exact Heap.IsTupleIter.extBut s e n
  . exact Heap.IsListIter.extBut s e n
theorem SQ.extBut {b : Bool} {h h' : Heap} {l c : Addr} {xs : Array Value} (s : SQ b h l xs) (e : Heap.ExtBut c h h') (n : l ≠ c) : SQ b h' l xs := by
  cases b
  . exact Heap.IsTuple.extBut s e n
  . exact Heap.IsList.extBut s e n
theorem SI.at {b : Bool} {h h' : Heap} {it l : Addr} {i : Nat} (s : SI b h it l i) (e : ∀ o, h.get? it = some o -> h'.get? it = some o) : SI b h' it l i := by
  cases b
  . exact Heap.IsTupleIter.at s e
  . exact Heap.IsListIter.at s e
theorem SQ.at {b : Bool} {h h' : Heap} {l : Addr} {xs : Array Value} (s : SQ b h l xs) (e : ∀ o, h.get? l = some o -> h'.get? l = some o) : SQ b h' l xs := by
  cases b
  . exact Heap.IsTuple.at s e
  . exact Heap.IsList.at s e
theorem SI.ob {b : Bool} {h : Heap} {it l : Addr} {i : Nat} (s : SI b h it l i) : ∃ o, h.get? it = some o /\ ∃ vs, o.data = .fields vs := by
  cases b
  . obtain ⟨o, h1, _, h2⟩ := s; exact ⟨o, h1, _, h2⟩
  . obtain ⟨o, h1, _, h2⟩ := s; exact ⟨o, h1, _, h2⟩
theorem SQ.lt {b : Bool} {h : Heap} {l : Addr} {xs : Array Value} (s : SQ b h l xs) : l < h.objs.size := by
  cases b
  . obtain ⟨o, h1, _⟩ := s; exact Heap.lt_size h1
  . obtain ⟨o, h1, _⟩ := s; exact Heap.lt_size h1
section
variable {prog : Program} {w : World} {A : Around} {E : Value -> Shared -> Prop} {s : Shared}
theorem siNext {b : Bool} {it t : Addr} {i : Nat} {its : Array Value} {x : Value} {Q : Value -> Shared -> Prop} (hit : SI b s.heap it t i) (ht : SQ b s.heap t its) (hx : its[i]? = some x)
    (k : ∀ g, SI b g it t (i + 1) -> Heap.SameBut it s.heap g -> Q x { s with heap := g }) : wpAny (model prog w) A (Builtin.SmallTypes.nextOf (.ref it)) Q E s := by
  cases b
  . exact tupNext hit ht hx k
  . exact wpAny_nextOf_list_item hit ht hx k
theorem siEnd {b : Bool} {it t : Addr} {i : Nat} {its : Array Value} {Q : Value -> Shared -> Prop} (hh : A.handled = none) (hit : SI b s.heap it t i) (ht : SQ b s.heap t its) (hx : its[i]? = none)
    (k : ∀ g e, Heap.ExtBut it s.heap g -> (∃ o, g.get? e = some o /\ o.cls = .type "StopIteration") -> E (.ref e) { s with heap := g }) : wpAny (model prog w) A (Builtin.SmallTypes.nextOf (.ref it)) Q E s := by
  cases b
  . exact tupEnd hh hit ht hx k
  . exact wpAny_nextOf_list_end hh hit ht hx k
variable {b1 b2 : Bool}
structure ZipG (b1 b2 : Bool) (h : Heap) (z a b i1 i2 l1 l2 : Addr) (xs ys : Array Value) (k : Nat) (f : Value) : Prop where
  z : IsZip h z a b f
  a : IsPair h a (.ref i1) (.ref i2)
  b : ∃ u v, IsPair h b u v
  i1 : SI b1 h i1 l1 k
  i2 : SI b2 h i2 l2 k
  l1 : SQ b1 h l1 xs
  l2 : SQ b2 h l2 ys
theorem zipNextG {z a b i1 i2 l1 l2 : Addr} {k : Nat} {xs ys : Array Value} {x y : Value} {Q : Option Value -> Shared -> Prop} (D : ZipApart z a b i1 i2 l1 l2) (Z : ZipG b1 b2 s.heap z a b i1 i2 l1 l2 xs ys k .none) (hx : xs[k]? = some x) (hy : ys[k]? = some y)
    (kq : ∀ g, ZipG b1 b2 g z a b i1 i2 l1 l2 xs ys (k + 1) (rawInt s.heap.objs.size) -> IsPair g s.heap.objs.size x y -> (∀ c o, c ≠ z -> c ≠ b -> c ≠ i1 -> c ≠ i2 -> s.heap.get? c = some o -> g.get? c = some o) -> Q (some (.ref s.heap.objs.size)) { s with heap := g }) :
    wpAny (model prog w) A (pyNext (.ref z)) Q E s := by
  obtain ⟨hz, ha, ⟨u, v, hb⟩, h1, h2, t1, t2⟩ := Z
  have hT : s.TypeIs (.ref z) "zip" := ⟨_, hz, rfl⟩
  unfold pyNext
  refine wpAny_bind (wpAny_attempt (wpAny_callSpecial?_slot (name := Str.ofString "__next__") hT F.slot_zip_next (wpAny_call_entry F.slot_zip_next hT F.entry_zip_next ?_ (F.args_zip_next_1 _))))
  show wpAny _ _ (field (.ref z) 2 >>= _) _ _ _; refine wpAny_bind (wpAny_field hz rfl (x := .bool false) rfl ?_); show wpAny _ _ (field (.ref z) 3 >>= _) _ _ _
  refine wpAny_bind (wpAny_field hz rfl (x := .ref a) rfl ?_); refine wpAny_bind (wpAny_seqItems ha rfl ?_); show wpAny _ _ (Builtin.SmallTypes.ownedTupleIsFree (.ref z) >>= _) _ _ _
  refine wpAny_bind ?_; unfold Builtin.SmallTypes.ownedTupleIsFree; refine wpAny_bind (wpAny_field hz rfl (x := .none) rfl (wpAny_pure ?_))
  simp only [if_true]; refine wpAny_bind (wpAny_rule ?_); refine wpAny_bind (wpAny_field hz rfl (x := .ref b) rfl ?_)
  refine wpAny_bind (wpAny_setField_rec hz (by simp) fun g₁ e₁ s₁ => ?_)
  replace e₁ : IsZip g₁ z a b .ellipsis := e₁
  refine wpAny_bind ?_; simp only [List.zipIdx_cons, List.zipIdx_nil, List.forIn_cons, List.forIn_nil]
  refine wpAny_bind (wpAny_bind (wpAny_onRaise ?_)); show wpAny _ _ (Builtin.SmallTypes.nextOf (.ref i1) >>= _) _ _ _
  refine wpAny_bind (siNext (h1.extBut s₁.extBut D.i1z) (t1.extBut s₁.extBut D.l1z) hx fun g₂ f₂ s₂ => wpAny_pure ?_)
  have b₂ : IsPair g₂ b u v := s₂.extBut _ _ D.TOi1 (s₁.extBut _ _ D.TOz hb)
  refine wpAny_bind (wpAny_seqItems b₂ rfl ?_); refine wpAny_bind (wpAny_updateSeq_pair b₂ fun g₃ b₃ s₃ => ?_)
  replace b₃ : IsPair g₃ b x v := b₃
  refine wpAny_bind (wpAny_letGo (wpAny_pure ?_)); refine wpAny_bind (wpAny_bind (wpAny_onRaise ?_)); show wpAny _ _ (Builtin.SmallTypes.nextOf (.ref i2) >>= _) _ _ _
  refine wpAny_bind (siNext (((h2.extBut s₁.extBut D.i2z).extBut s₂.extBut D.i12.symm).extBut s₃.extBut D.TOi2.symm) (((t2.extBut s₁.extBut D.l2z).extBut s₂.extBut D.l2i1).extBut s₃.extBut D.l2TO) hy fun g₄ f₄ s₄ => wpAny_pure ?_)
  have b₄ : IsPair g₄ b x v := s₄.extBut _ _ D.TOi2 b₃
  refine wpAny_bind (wpAny_seqItems b₄ rfl ?_); refine wpAny_bind (wpAny_updateSeq_pair b₄ fun g₅ b₅ s₅ => ?_)
  replace b₅ : IsPair g₅ b x y := b₅
  refine wpAny_bind (wpAny_letGo (wpAny_pure (wpAny_pure ?_))); refine wpAny_bind (wpAny_seqItems b₅ rfl ?_); refine wpAny_bind (wpAny_newTuple ?_)
  have sz : g₅.objs.size = s.heap.objs.size := by rw [s₅.1, s₄.1, s₃.1, s₂.1, s₁.1]
  have e₅ : IsZip g₅ z a b .ellipsis := s₅.extBut _ _ D.TOz.symm (s₄.extBut _ _ D.i2z.symm (s₃.extBut _ _ D.TOz.symm (s₂.extBut _ _ D.i1z.symm e₁)))
  have k₅ : ∀ c o, c ≠ z -> c ≠ b -> c ≠ i1 -> c ≠ i2 -> s.heap.get? c = some o -> g₅.get? c = some o := fun c o c1 c2 c3 c4 e => s₅.extBut _ _ c2 (s₄.extBut _ _ c4 (s₃.extBut _ _ c2 (s₂.extBut _ _ c3 (s₁.extBut _ _ c1 e))))
  have m₁ : SI b1 g₅ i1 l1 (k + 1) := ((f₂.extBut s₃.extBut D.TOi1.symm).extBut s₄.extBut D.i12).extBut s₅.extBut D.TOi1.symm
  have m₂ : SI b2 g₅ i2 l2 (k + 1) := f₄.extBut s₅.extBut D.TOi2.symm
  have lz : z < g₅.objs.size := Heap.lt_size e₅
  show wpAny _ _ (Builtin.SmallTypes.ownedTupleHandOut (.ref z) (.ref g₅.objs.size) >>= _) _ _ _; refine wpAny_bind ?_; unfold Builtin.SmallTypes.ownedTupleHandOut
  have e₆ : IsZip (g₅.push { cls := .type "tuple", data := .seq #[x, y] }) z a b .ellipsis := Heap.get?_push_of_some _ e₅
  refine wpAny_bind (wpAny_setField_rec e₆ (by simp) fun g₇ e₇ s₇ => ?_)
  replace e₇ : IsZip g₇ z a b (rawInt g₅.objs.size) := e₇
  refine wpAny_setField_rec e₇ (by simp) fun g₈ e₈ s₈ => ?_
  replace e₈ : IsZip g₈ z a b (rawInt g₅.objs.size) := e₈
  have up : ∀ c o, c ≠ z -> g₅.get? c = some o -> g₈.get? c = some o := fun c o c1 e => s₈.extBut _ _ c1 (s₇.extBut _ _ c1 (Heap.get?_push_of_some _ e))
  have p₈ : IsPair g₈ g₅.objs.size x y := s₈.extBut _ _ (Nat.ne_of_gt lz) (s₇.extBut _ _ (Nat.ne_of_gt lz) (Heap.get?_push_size _ rfl))
  rw [sz] at e₈ p₈
  refine wpAny_pure ⟨_, rfl, wpAny_pure ?_⟩
  show Q (some (.ref g₅.objs.size)) _; rw [sz]
  have all : ∀ c o, c ≠ z -> c ≠ b -> c ≠ i1 -> c ≠ i2 -> s.heap.get? c = some o -> g₈.get? c = some o := fun c o c1 c2 c3 c4 e => up c o c1 (k₅ c o c1 c2 c3 c4 e)
  exact kq g₈ ⟨e₈, all _ _ D.TIz D.TITO D.TIi1 D.TIi2 ha, ⟨_, _, up _ _ D.TOz b₅⟩, m₁.at fun o e => up _ o D.i1z e, m₂.at fun o e => up _ o D.i2z e, t1.at fun o e => all _ o D.l1z D.l1TO D.l1i1 D.l1i2 e, t2.at fun o e => all _ o D.l2z D.l2TO D.l2i1 D.l2i2 e⟩ p₈ all
theorem zipEndG {z a b i1 i2 l1 l2 : Addr} {k : Nat} {xs ys : Array Value} {Q : Option Value -> Shared -> Prop} (hh : A.handled = none) (D : ZipApart z a b i1 i2 l1 l2) (Z : ZipG b1 b2 s.heap z a b i1 i2 l1 l2 xs ys k .none) (hx : xs[k]? = none)
    (kq : ∀ g, (∀ c o, c ≠ z -> c ≠ b -> c ≠ i1 -> c ≠ i2 -> s.heap.get? c = some o -> g.get? c = some o) -> Q none { s with heap := g }) : wpAny (model prog w) A (pyNext (.ref z)) Q E s := by
  obtain ⟨hz, ha, ⟨u, v, hb⟩, h1, h2, t1, t2⟩ := Z
  have hT : s.TypeIs (.ref z) "zip" := ⟨_, hz, rfl⟩
  unfold pyNext
  refine wpAny_bind (wpAny_attempt (wpAny_callSpecial?_slot (name := Str.ofString "__next__") hT F.slot_zip_next (wpAny_call_entry F.slot_zip_next hT F.entry_zip_next ?_ (F.args_zip_next_1 _))))
  show wpAny _ _ (field (.ref z) 2 >>= _) _ _ _; refine wpAny_bind (wpAny_field hz rfl (x := .bool false) rfl ?_); show wpAny _ _ (field (.ref z) 3 >>= _) _ _ _
  refine wpAny_bind (wpAny_field hz rfl (x := .ref a) rfl ?_); refine wpAny_bind (wpAny_seqItems ha rfl ?_); show wpAny _ _ (Builtin.SmallTypes.ownedTupleIsFree (.ref z) >>= _) _ _ _
  refine wpAny_bind ?_; unfold Builtin.SmallTypes.ownedTupleIsFree; refine wpAny_bind (wpAny_field hz rfl (x := .none) rfl (wpAny_pure ?_))
  simp only [if_true]; refine wpAny_bind (wpAny_rule ?_); refine wpAny_bind (wpAny_field hz rfl (x := .ref b) rfl ?_)
  refine wpAny_bind (wpAny_setField_rec hz (by simp) fun g₁ e₁ s₁ => ?_)
  replace e₁ : IsZip g₁ z a b .ellipsis := e₁
  refine wpAny_bind ?_; simp only [List.zipIdx_cons, List.zipIdx_nil, List.forIn_cons, List.forIn_nil]
  refine wpAny_bind (wpAny_bind (wpAny_onRaise ?_)); show wpAny _ _ (Builtin.SmallTypes.nextOf (.ref i1) >>= _) _ _ _
  refine wpAny_bind (siEnd hh (h1.extBut s₁.extBut D.i1z) (t1.extBut s₁.extBut D.l1z) hx fun g₂ e s₂ he => ?_)
  obtain ⟨oe, he1, he2⟩ := he
  have e₂ : IsZip g₂ z a b .ellipsis := s₂ _ _ D.i1z.symm e₁
  have hez : e ≠ z := fun x => by subst x; rw [e₂] at he1; cases he1; simp at he2
  refine wpAny_setField_rec e₂ (by simp) fun g₃ _ s₃ => ?_
  refine wpAny_bind (wpAny_isInstance (T := "StopIteration") (b := true) ⟨oe, s₃.extBut _ _ hez he1, he2⟩ isSubtype_stop ?_)
  exact wpAny_pure (kq _ fun c o c1 _ c3 _ x => s₃.extBut _ _ c1 (s₂ _ _ c3 (s₁.extBut _ _ c1 x)))
noncomputable abbrev zl (h : Heap) (l : Addr) : Heap := h.push { cls := .type "list_iterator", data := .fields #[.ref l, .int 0 0] }
noncomputable abbrev zg (b : Bool) (h : Heap) (l : Addr) : Heap := h.push { cls := .type (if b then "list_iterator" else "tuple_iterator"), data := .fields #[.ref l, .int 0 0] }
theorem zipNewMeetsG (l1 l2 : Addr) (xs ys : Array Value) :
    Meets (Builtin.«zip.__new__» ⟨[.type "zip", .ref l1, .ref l2], []⟩) (fun _ R s => SQ b1 s.heap l1 xs /\ SQ b2 s.heap l2 ys /\ ∀ g, g = (((zg b2 (zg b1 s.heap l1) l2).push { cls := .type "tuple", data := .seq #[.ref s.heap.objs.size, .ref (zg b1 s.heap l1).objs.size] }).push { cls := .type "tuple", data := .seq #[.none, .none] }) ->
      R (.ok (.ret (.ref g.objs.size))) { s with heap := g.push { cls := .type "zip", data := .fields #[.none, .bool false, .bool false, .ref (zg b2 (zg b1 s.heap l1) l2).objs.size, .ref ((zg b2 (zg b1 s.heap l1) l2).push { cls := .type "tuple", data := .seq #[.ref s.heap.objs.size, .ref (zg b1 s.heap l1).objs.size] }).objs.size] } }) :=
  .of_wp fun prog w A R s h => by
    obtain ⟨hp, g, d, tk, os⟩ := s; obtain ⟨q1, q2, h⟩ := h
    have hsub := sub_zip
    cases b1 <;> cases b2
    . have L1 : Heap.IsTuple (Shared.heap ⟨hp, g, d, tk, os⟩) l1 xs := q1
      have L2 : Heap.IsTuple (Shared.heap ⟨zh hp l1, g, d, tk, os⟩) l2 ys := Heap.IsTuple.at q2 fun o e => Heap.get?_push_of_some _ e
      wp_walk using wpAny_pyIter_tuple L1, wpAny_pyIter_tuple L2
      exact ⟨_, rfl, h _ rfl⟩
    . have L1 : Heap.IsTuple (Shared.heap ⟨hp, g, d, tk, os⟩) l1 xs := q1
      have L2 : Heap.IsList (Shared.heap ⟨zh hp l1, g, d, tk, os⟩) l2 ys := Heap.IsList.at q2 fun o e => Heap.get?_push_of_some _ e
      wp_walk using wpAny_pyIter_tuple L1, wpAny_pyIter_list L2
      exact ⟨_, rfl, h _ rfl⟩
    . have L1 : Heap.IsList (Shared.heap ⟨hp, g, d, tk, os⟩) l1 xs := q1
      have L2 : Heap.IsTuple (Shared.heap ⟨zl hp l1, g, d, tk, os⟩) l2 ys := Heap.IsTuple.at q2 fun o e => Heap.get?_push_of_some _ e
      wp_walk using wpAny_pyIter_list L1, wpAny_pyIter_tuple L2
      exact ⟨_, rfl, h _ rfl⟩
    . have L1 : Heap.IsList (Shared.heap ⟨hp, g, d, tk, os⟩) l1 xs := q1
      have L2 : Heap.IsList (Shared.heap ⟨zl hp l1, g, d, tk, os⟩) l2 ys := Heap.IsList.at q2 fun o e => Heap.get?_push_of_some _ e
      wp_walk using wpAny_pyIter_list L1, wpAny_pyIter_list L2
      exact ⟨_, rfl, h _ rfl⟩
theorem siNew {b : Bool} {h : Heap} {it l : Addr} (e : h.get? it = some { cls := .type (if b then "list_iterator" else "tuple_iterator"), data := .fields #[.ref l, .int 0 0] }) : SI b h it l 0 := by
  cases b
  . exact ⟨_, e, rfl, rfl⟩
  . exact ⟨_, e, rfl, rfl⟩
theorem callZipG {l1 l2 : Addr} {xs ys : Array Value} {Q : Value -> Shared -> Prop} (h1 : SQ b1 s.heap l1 xs) (h2 : SQ b2 s.heap l2 ys)
    (k : ∀ g, ZipG b1 b2 g (s.heap.objs.size + 4) (s.heap.objs.size + 2) (s.heap.objs.size + 3) s.heap.objs.size (s.heap.objs.size + 1) l1 l2 xs ys 0 .none -> (∀ c o, s.heap.get? c = some o -> g.get? c = some o) -> Q (.ref (s.heap.objs.size + 4)) { s with heap := g }) :
    wpAny (model prog w) A (call (.type "zip") [.ref l1, .ref l2]) Q E s := by
  refine callType_new F.called_zip (by decide) (F.typeCall_zip_2 _ _) (F.newCall_zip_2 _ _) (fun obj => F.args_object_init_3 obj _ _) F.entry_zip_new (zipNewMeetsG l1 l2 xs ys) ⟨h1, h2, fun g hg => ?_⟩
  generalize e1 : zg b1 s.heap l1 = a1 at *
  generalize e2 : zg b2 a1 l2 = a2 at *
  generalize e3 : a2.push { cls := .type "tuple", data := .seq #[.ref s.heap.objs.size, .ref a1.objs.size] } = a3 at *
  have n1 : a1.objs.size = s.heap.objs.size + 1 := by rw [<- e1]; exact Heap.size_push ..
  have n2 : a2.objs.size = s.heap.objs.size + 2 := by rw [<- e2, Heap.size_push, n1]
  have n3 : a3.objs.size = s.heap.objs.size + 3 := by rw [<- e3, Heap.size_push, n2]
  have n4 : g.objs.size = s.heap.objs.size + 4 := by rw [hg, Heap.size_push, n3]
  have up1 : ∀ c o, s.heap.get? c = some o -> a1.get? c = some o := fun c o x => e1 ▸ Heap.get?_push_of_some _ x
  have up2 : ∀ c o, a1.get? c = some o -> a2.get? c = some o := fun c o x => e2 ▸ Heap.get?_push_of_some _ x
  have up3 : ∀ c o, a2.get? c = some o -> a3.get? c = some o := fun c o x => e3 ▸ Heap.get?_push_of_some _ x
  have up4 : ∀ c o, a3.get? c = some o -> g.get? c = some o := fun c o x => hg ▸ Heap.get?_push_of_some _ x
  have x1 : a1.get? s.heap.objs.size = some { cls := .type (if b1 then "list_iterator" else "tuple_iterator"), data := .fields #[.ref l1, .int 0 0] } := e1 ▸ Heap.get?_push_size _ rfl
  have x2 : a2.get? (s.heap.objs.size + 1) = some { cls := .type (if b2 then "list_iterator" else "tuple_iterator"), data := .fields #[.ref l2, .int 0 0] } := by rw [<- n1]; exact e2 ▸ Heap.get?_push_size _ rfl
  have x3 : a3.get? (s.heap.objs.size + 2) = some { cls := .type "tuple", data := .seq #[.ref s.heap.objs.size, .ref a1.objs.size] } := by rw [<- n2]; exact e3 ▸ Heap.get?_push_size _ rfl
  have x4 : g.get? (s.heap.objs.size + 3) = some { cls := .type "tuple", data := .seq #[.none, .none] } := by rw [<- n3]; exact hg ▸ Heap.get?_push_size _ rfl
  have x5 : (g.push { cls := .type "zip", data := .fields #[.none, .bool false, .bool false, .ref a2.objs.size, .ref a3.objs.size] }).get? (s.heap.objs.size + 4) = some { cls := .type "zip", data := .fields #[.none, .bool false, .bool false, .ref a2.objs.size, .ref a3.objs.size] } := by rw [<- n4]; exact Heap.get?_push_size _ rfl
  rw [n2, n3] at x5
  rw [n1] at x3
  show _ /\ _
  rw [n4, n2, n3]
  have all : ∀ c o, s.heap.get? c = some o -> (g.push { cls := .type "zip", data := .fields #[.none, .bool false, .bool false, .ref (s.heap.objs.size + 2), .ref (s.heap.objs.size + 3)] }).get? c = some o := fun c o x => Heap.get?_push_of_some _ (up4 _ _ (up3 _ _ (up2 _ _ (up1 _ _ x))))
  refine ⟨⟨_, x5, rfl⟩, k _ ⟨x5, Heap.get?_push_of_some _ (up4 _ _ x3), ⟨_, _, Heap.get?_push_of_some _ x4⟩, siNew (Heap.get?_push_of_some _ (up4 _ _ (up3 _ _ (up2 _ _ x1)))), siNew (Heap.get?_push_of_some _ (up4 _ _ (up3 _ _ x2))), h1.at fun o e => all _ o e, h2.at fun o e => all _ o e⟩ all⟩
end
end L2
end
section
namespace L2
open PySem PySem.Spec PyProof.Rows
noncomputable def SX (b : Bool) (K : PySem.W.Frag) (H : Hp) (a : Addr) (xs : List V) : Prop := match b with | true => SqL K H a xs | false => SqT K H a xs
theorem Inv.sx {X : Cx} {pins : List (Addr × Obj)} {σ : St} {H : Hp} {s : Shared} {b : Bool} {a : Addr} {xs : List V} (I : Inv X pins σ H s) (h : SX b X.K H a xs) : ∃ its : List Value, Vals xs its /\ SQ b s.heap a its.toArray /\ xs.length <= sizeLine := by
  cases b
  . obtain ⟨its, rv, p, hz⟩ := I.tuple h
    exact ⟨its, rv, p, hz⟩
  . obtain ⟨its, rv, p, hz⟩ := I.list h
    exact ⟨its, rv, p.isList, hz⟩
theorem Inv.sx_inj {X : Cx} {pins : List (Addr × Obj)} {σ : St} {H : Hp} {s : Shared} {b : Bool} {a : Addr} {xs ys : List V} (I : Inv X pins σ H s) (h : SX b X.K H a xs) (h' : SX b X.K H a ys) : xs = ys := by
  cases b
  . exact I.tuple_inj h h'
  . exact I.list_inj h h'
noncomputable def ItzG (b1 b2 : Bool) (K : PySem.W.Frag) (l1 l2 : Addr) : It :=
  ⟨fun i H => ∃ xs ys x y, SX b1 K H l1 xs /\ SX b2 K H l2 ys /\ xs[i]? = some x /\ ys[i]? = some y,
   fun i H v H' => ∃ p, H p = none /\ v = .ref p /\ ∀ xs ys x y, SX b1 K H l1 xs -> SX b2 K H l2 ys -> xs[i]? = some x -> ys[i]? = some y -> H' = upd H p (.tup [x, y]),
   fun i H => ∃ xs, SX b1 K H l1 xs /\ xs.length <= i /\ ∃ ys, SX b2 K H l2 ys⟩
noncomputable def zntG (b1 b2 : Bool) (z a b i1 i2 l1 l2 : Addr) (i : Nat) (h : Heap) : Prop := IsZip h z a b .none /\ IsPair h a (.ref i1) (.ref i2) /\ (∃ u v, IsPair h b u v) /\ SI b1 h i1 l1 i /\ SI b2 h i2 l2 i
theorem turn_zipG {b1 b2 : Bool} {P : Program} {w : World} {K : PySem.W.Frag} {elts : List Expr} {x1} {pos : Pos} {z a b i1 i2 l1 l2 : Addr} (D : ZipApart z a b i1 i2 l1 l2) : Turn P w K (.Tuple elts x1 pos) (ItzG b1 b2 K l1 l2) [z, a, b, i1, i2] z (zntG b1 b2 z a b i1 i2 l1 l2) where
  mem := by simp
  obj := fun i h st c hc => by
    obtain ⟨h1, h2, ⟨u, v, h3⟩, h4, h5⟩ := st
    obtain ⟨o4, h4, _, d4⟩ := h4.ob
    obtain ⟨o5, h5, _, d5⟩ := h5.ob
    simp only [List.mem_cons, List.mem_nil_iff, or_false] at hc
    rcases hc with rfl | rfl | rfl | rfl | rfl
    . exact ⟨_, h1, fun v z => by cases z⟩
    . exact ⟨_, h2, fun v z => by cases z⟩
    . exact ⟨_, h3, fun v z => by cases z⟩
    . exact ⟨_, h4, fun v z => by rw [d4] at z; cases z⟩
    . exact ⟨_, h5, fun v z => by rw [d5] at z; cases z⟩
  keep := fun i h h' st k => by
    obtain ⟨h1, h2, ⟨u, v, h3⟩, h4, h5⟩ := st
    exact ⟨k _ (by simp) _ h1, k _ (by simp) _ h2, ⟨u, v, k _ (by simp) _ h3⟩, h4.at fun o e => k _ (by simp) o e, h5.at fun o e => k _ (by simp) o e⟩
  item := by
    intro X hP hw hK hc i pins s σ H E I hf st hg
    subst hP hw hK
    obtain ⟨xs, ys, x, y, q1, q2, hx, hy⟩ := hg
    obtain ⟨its, rv, p, hz⟩ := I.sx q1
    obtain ⟨its', rv', p', hz'⟩ := I.sx q2
    obtain ⟨u, hu, ru⟩ := rv.get hx
    obtain ⟨u', hu', ru'⟩ := rv'.get hy
    obtain ⟨h1, h2, h3, h4, h5⟩ := id st
    refine zipNextG D ⟨h1, h2, h3, h4, h5, p, p'⟩ (x := u) (y := u') (by simpa using hu) (by simpa using hu') fun g Z pr all => ⟨_, rfl, ?_⟩
    refine wpAny_letOwnedTupleGo_zip (s := { s with heap := g }) Z.z fun g2 e2 s2 => ?_
    have hn : H s.heap.objs.size = none := I.hok.fresh (Nat.le_refl _)
    have lt : ∀ c ∈ [z, a, b, i1, i2], c < s.heap.objs.size := fun c hc => by
      have := (hf c hc)
      obtain ⟨w1, w2, ⟨_, _, w3⟩, w4, w5⟩ := st
      obtain ⟨_, w4, _⟩ := w4.ob
      obtain ⟨_, w5, _⟩ := w5.ob
      simp only [List.mem_cons, List.mem_nil_iff, or_false] at hc
      rcases hc with rfl | rfl | rfl | rfl | rfl
      . exact Heap.lt_size w1
      . exact Heap.lt_size w2
      . exact Heap.lt_size w3
      . exact Heap.lt_size w4
      . exact Heap.lt_size w5
    have kp : ∀ c o, c ∉ [z, a, b, i1, i2] -> s.heap.get? c = some o -> g2.get? c = some o := fun c o hc e => by
      simp only [List.mem_cons, List.mem_nil_iff, or_false, not_or] at hc
      exact s2.extBut _ _ hc.1 (all c o hc.1 hc.2.2.1 hc.2.2.2.1 hc.2.2.2.2 e)
    have trk : ∀ c u, H c = some u -> c ∉ [z, a, b, i1, i2] := fun c u e hc => by rw [(hf c hc).1] at e; cases e
    have pr2 : g2.get? s.heap.objs.size = some { cls := .type "tuple", data := .seq #[u, u'] } := s2.extBut _ _ (Nat.ne_of_gt (lt z (by simp))) pr
    have I2 : Inv X pins σ (upd H s.heap.objs.size (.tup [x, y])) { s with heap := g2 } := by
      refine I.step (g' := s.gens) (d' := s.drawn) (t' := s.toks) (ch := [z, a, b, i1, i2]) (fun c hc => ?_) (fun c o _ _ hc e _ => kp c o hc e) (fun c o _ _ hc e _ => ⟨o.slots, kp c o hc e⟩) (fun c o _ e n => ?_)
        (fun c o hc e => ⟨o, kp c o hc e⟩) (fun c vs e => ?_) (fun c o vs e => ?_) (fun c ps e => ⟨#[], ?_⟩) (fun m hm => ?_) (fun c v e => ?_) I.bare
      . obtain ⟨f0, f1, f2, f3, f4, f5⟩ := hf c hc
        exact ⟨f3, f1, f4, f5⟩
      . rw [upd_ne (Nat.ne_of_lt (Heap.lt_size e))]; exact n
      . rw [upd_ne (ne_of_none e hn)]; exact e
      . rw [upd_ne (ne_of_none e hn)]; exact e
      . rw [upd_ne (ne_of_none e hn), e]; simp
      . obtain ⟨o, es, ep, ho, r⟩ := hm
        exact ⟨o, es, ep, kp _ o (fun hc => (hf _ hc).2.1 rfl) ho, r⟩
      . by_cases hb : c = s.heap.objs.size
        . subst hb
          rw [upd_same] at e; cases e
          exact ⟨by show 2 <= sizeLine; decide, [u, u'], .cons ru (.cons ru' .nil), ⟨_, pr2, rfl, _, rfl⟩⟩
        . rw [upd_ne hb] at e
          refine (I.hok c v e).stay (fun d o hd q => kp d o ?_ q) (fun d q => by rw [upd_ne (ne_of_none q hn)]; exact q) fun d ts q => by rw [upd_ne (ne_of_none q hn)]; exact q
          rcases hd with rfl | hd
          . exact trk _ _ e
          . exact trk _ _ hd
    refine ⟨.ref s.heap.objs.size, _, I2, rfl, ⟨_, hn, rfl, fun xs' ys' x' y' a1 a2 a3 a4 => ?_⟩, ⟨e2, s2.extBut _ _ D.TIz Z.a, ?_, Z.i1.extBut s2.extBut D.i1z, Z.i2.extBut s2.extBut D.i2z⟩, fun c hc => ?_⟩
    . rw [I.sx_inj a1 q1, hx] at a3
      rw [I.sx_inj a2 q2, hy] at a4
      cases a3; cases a4; rfl
    . obtain ⟨v1, v2, e3⟩ := Z.b
      exact ⟨v1, v2, s2.extBut _ _ D.TOz e3⟩
    . rw [upd_ne (Nat.ne_of_lt (lt c hc))]; exact (hf c hc).1
  done := by
    intro X hP hw hK hc i pins s σ H E I hf st hg
    subst hP hw hK
    obtain ⟨xs, q1, hx, ys, q2⟩ := hg
    obtain ⟨its, rv, p, hz⟩ := I.sx q1
    obtain ⟨its', rv', p', hz'⟩ := I.sx q2
    obtain ⟨h1, h2, h3, h4, h5⟩ := id st
    have hl := rv.length
    refine zipEndG (I.ok.hd hc) D ⟨h1, h2, h3, h4, h5, p, p'⟩ (by simp; omega) fun g all => ⟨rfl, ?_⟩
    have kp : ∀ c o, c ∉ [z, a, b, i1, i2] -> s.heap.get? c = some o -> g.get? c = some o := fun c o hc e => by
      simp only [List.mem_cons, List.mem_nil_iff, or_false, not_or] at hc
      exact all c o hc.1 hc.2.2.1 hc.2.2.2.1 hc.2.2.2.2 e
    have trk : ∀ c u, H c = some u -> c ∉ [z, a, b, i1, i2] := fun c u e hc => by rw [(hf c hc).1] at e; cases e
    refine I.step (g' := s.gens) (d' := s.drawn) (t' := s.toks) (ch := [z, a, b, i1, i2]) (fun c hc => ?_) (fun c o _ _ hc e _ => kp c o hc e) (fun c o _ _ hc e _ => ⟨o.slots, kp c o hc e⟩) (fun c o _ e n => n)
        (fun c o hc e => ⟨o, kp c o hc e⟩) (fun c vs e => e) (fun c o vs e => e) (fun c ps e => ⟨#[], by rw [e]; simp⟩) (fun m hm => ?_) (fun c v e => ?_) I.bare
    . obtain ⟨f0, f1, f2, f3, f4, f5⟩ := hf c hc
      exact ⟨f3, f1, f4, f5⟩
    . obtain ⟨o, es, ep, ho, r⟩ := hm
      exact ⟨o, es, ep, kp _ o (fun hc => (hf _ hc).2.1 rfl) ho, r⟩
    . refine (I.hok c v e).stay (fun d o hd q => kp d o ?_ q) (fun d q => q) fun d ts q => q
      rcases hd with rfl | hd
      . exact trk _ _ e
      . exact trk _ _ hd
  self := fun _ _ _ _ _ st h => wpAny_pyIter_zip st.1 h
section
variable {X : Cx}
noncomputable def iZipG (b1 b2 : Bool) (K : PySem.W.Frag) (ta : TA) : TI := fun σ H R => ta σ H fun vs H1 => ∃ l1 l2, vs = [.ref l1, .ref l2] /\ (∃ xs, SX b1 K H1 l1 xs) /\ (∃ ys, SX b2 K H1 l2 ys) /\ R (ItzG b1 b2 K l1 l2) H1
theorem pi_zipG {b1 b2 : Bool} {a b : Expr} {ta : TA} {p pos pt : Pos} {elts : List Expr} {x1} (hg : Gl X "zip") (hm : X.mg "zip" = none) (ha : PA X [a, b] ta) (hs : starEach [a, b] X.env = [(false, eval a X.env), (false, eval b X.env)] := by rfl) (hs2 : starEach [b] X.env = [(false, eval b X.env)] := by rfl) :
    PI X (.Tuple elts x1 pt) (.Call (.Name "zip" p) [a, b] [] pos) (iZipG b1 b2 X.K ta) := by
  intro pins s σ H R I h
  refine Call_ (ld_blt I hg hm boot_zip (PyProof.Rows.callWith_type1 (thn (ha pos pins s σ H _ I h) fun us s1 ⟨vs, H1, I1, r1, q1⟩ => ?_) (by rw [hs, hs2]) (by rw [hs2]; rfl)))
  obtain ⟨l1, l2, e, ⟨xs, q1⟩, ⟨ys, q2⟩, q⟩ := q1
  subst e
  cases r1 with
  | cons r rr =>
    cases rr with
    | cons r' rr =>
      cases rr
      cases (show _ = Value.ref l1 from r)
      cases (show _ = Value.ref l2 from r')
      obtain ⟨its, rv, p1, _⟩ := I1.sx q1
      obtain ⟨its', rv', p2, _⟩ := I1.sx q2
      have a1 : l1 < s1.heap.objs.size := p1.lt
      have a2 : l2 < s1.heap.objs.size := p2.lt
      refine callZipG p1 p2 fun g Z all => ?_
      refine wpAny_pyIter_zip (s := { s1 with heap := g }) Z.z ?_
      refine ⟨_, _, _, _, H1, rfl, I1.kept (t' := s1.toks) all, turn_zipG (PyProof.Rows.zipApart_new a1 a2), ⟨Z.z, Z.a, Z.b, Z.i1, Z.i2⟩, fun b hb => ?_, q⟩
      have ge : s1.heap.objs.size <= b := by
        simp only [List.mem_cons, List.mem_nil_iff, or_false] at hb
        rcases hb with rfl | rfl | rfl | rfl | rfl
        . exact Nat.le_add_right _ 4
        . exact Nat.le_add_right _ 2
        . exact Nat.le_add_right _ 3
        . exact Nat.le_refl _
        . exact Nat.le_add_right _ 1
      exact I1.fpOk ge (I1.hok.fresh ge)
theorem zi_zipG (b1 b2 : Bool) {ta : TA} {a b : Expr} {p pos pt : Pos} {elts : List Expr} {x1} (hg : Gl X "zip") (hm : X.mg "zip" = none) (ha : ZA X [a, b] ta) (hs : starEach [a, b] X.env = [(false, eval a X.env), (false, eval b X.env)] := by rfl) (hs2 : starEach [b] X.env = [(false, eval b X.env)] := by rfl) :
    ZI X (.Tuple elts x1 pt) (.Call (.Name "zip" p) [a, b] [] pos) (iZipG b1 b2 X.K ta) := ⟨pi_zipG hg hm ha.out hs hs2⟩
end
end L2
end
namespace D
open PySem L2 K0 Num
open PySem.W (Dat)
section
noncomputable def sqD (b : Bool) (ds : List Dat) : Dat := match b with | true => .list ds | false => .tuple ds
theorem dz_sx {W : Addr -> Prop} {K : PySem.W.Frag} {H : Hp} {v : V} {b : Bool} {ds : List Dat} (h : Dz (fun a => ¬ W a) K H v (sqD b ds)) : ∃ a vs, v = .ref a /\ SX b K H a vs /\ Dzs (fun a => ¬ W a) K H vs ds /\ ∀ H', Ev W H H' -> SX b K H' a vs := by
  cases b
  . cases h with
    | tup h1 h2 => exact ⟨_, _, rfl, h1, h2, fun H' ev => ev.tm _ _ _ h1⟩
  . cases h with
    | lst h1 h2 =>
      refine ⟨_, _, rfl, h1.sq, h2, fun H' ev => ?_⟩
      rcases h1 with ⟨nn, h1⟩ | h1
      . exact .inl (h1.imp (ev.keep _ _ nn) fun ⟨o, h⟩ => ⟨o, ev.keep _ _ nn h⟩)
      . exact SqN.sq (N := fun _ => True) (.inr h1)
section
variable {p : Option Addr} {K : PySem.W.Frag} {τ : List Sl} {tas : TA}
theorem Wk.zipG {b1 b2 : Bool} {xs ys : List Dat} (h : A1 p K tas τ [.dat (sqD b1 xs), .dat (sqD b2 ys)]) (hl : ys.length = xs.length) : Wk p K (iZipG b1 b2 K tas) τ (zipD xs ys) := fun W L σ H R r o q => h W L σ H _ r o fun vs H1 ss e e1 o1 rv => by
  subst e
  cases rv with
  | cons a t =>
    cases t with
    | cons b t =>
      cases t
      obtain ⟨a1, x1, rfl, h1, h2, k1⟩ := dz_sx a
      obtain ⟨a2, x2, rfl, h3, h4, k2⟩ := dz_sx b
      refine ⟨a1, a2, rfl, ⟨_, h1⟩, ⟨_, h3⟩, q _ H1 e1 o1 fun W' H' ev n => ?_⟩
      have g1 := k1 H' ev
      have g3 := k2 H' ev
      have g2 := Dzs.old ev n h2
      have g4 := Dzs.old ev n h4
      have ll : (zipD xs ys).length = xs.length := by unfold zipD; rw [List.length_zipWith, hl, Nat.min_self]
      refine ⟨⟨_, g1, by rw [g2.len, ll]; exact Nat.le_refl _, _, g3⟩, fun i d hd => ?_⟩
      obtain ⟨x, y, ex, ey, rfl⟩ := zipD_get hd
      obtain ⟨vx, ux, zx⟩ := g2.get ex
      obtain ⟨vy, uy, zy⟩ := g4.get ey
      refine ⟨⟨_, _, vx, vy, g1, g3, ux, uy⟩, fun z H2 ⟨a, ha, e, q⟩ => ?_⟩
      have := q _ _ _ _ g1 g3 ux uy
      subst this e
      have s := Same.new ha (.tup [vx, vy])
      have e : Ev (fun _ => False) H' (upd H' a (.tup [vx, vy])) := Ev.of s
      exact ⟨s, .tup (SqT.of upd_same) (.cons (zx.ev e fun _ _ h => h) (.cons (zy.ev e fun _ _ h => h) .nil))⟩
theorem Wk.zipLL {xs ys : List Dat} (h : A1 p K tas τ [.dat (.list xs), .dat (.list ys)]) (hl : ys.length = xs.length) : Wk p K (iZipG true true K tas) τ (zipD xs ys) := Wk.zipG (b1 := true) (b2 := true) h hl
end
end
section
section
variable {W : Addr -> Prop}
end
structure Row3 where
  x : Rat
  y : Rat
  z : Rat
noncomputable def Row3.d (r : Row3) : Dat := ptQ r.x r.y r.z
noncomputable def Row3.dot (r s : Row3) : Rat := r.x * s.x + r.y * s.y + r.z * s.z
theorem qf_neg' (x : Rat) : tI (qf (-x)) = tI [-x.num, (x.den : Int)] := by
  unfold qf
  rw [Rat.neg_num, Rat.neg_den]
end
end D
section
namespace L2
open PySem PySem.Spec PyProof.Rows
section
variable {a b c e o : Expr}
end
end L2
namespace D
open PySem L2 K0 Num
open PySem.W (Dat)
section
variable {p : Option Addr} {K : PySem.W.Frag} {W : Addr -> Prop} {H : Hp} {τ : List Sl}
end
end D
namespace D
open PySem L2 K0 Num
open PySem.W (Dat)
end D
namespace D
open PySem L2 K0 Num
open PySem.W (Dat)
section
variable {p : Option Addr} {K : PySem.W.Frag} {W : Addr -> Prop} {H : Hp} {L : List Addr} {σ : St} {τ : List Sl} {t : TS} {nx : List Sl -> Prop} {rt : Sl -> Prop}
theorem Rs.less {a : Addr} (r : Rs p W K H L σ τ) : a ∉ L -> Rs p (fun b => W b /\ b ≠ a) K H L σ τ := by
  induction r with
  | nil => exact fun _ => .nil
  | un _ ih => exact fun h => .un (ih h)
  | dat h _ ih => exact fun n => .dat (h.mono fun _ nb z => nb z.1) (ih n)
  | pu h _ ih => exact fun n => .pu h (ih n)
  | own h1 h2 h3 h4 h5 _ ih => exact fun n => .own ⟨h1, fun z => n (z ▸ List.mem_cons_self)⟩ h2 h3 h4 (h5.mono fun _ nb z => nb z.1) (ih fun z => n (List.mem_cons_of_mem _ z))
theorem Rs.frz (r : Rs p W K H L σ τ) : ∀ {i : Nat} {ds : List Dat}, τ[i]? = some (.own ds) -> ∃ (a : Addr) (L' : List Addr), (∀ b, b ∈ L' -> b ∈ L) /\ a ∈ L /\ W a /\ p ≠ some a /\ (∃ vs, H a = some (.lst vs)) /\ Rs p (fun b => W b /\ b ≠ a) K H L' σ (τ.set i (.dat (.list ds))) := by
  induction r with
  | nil => exact fun h => by simp at h
  | un r ih =>
    intro i ds h
    cases i with
    | zero => cases h
    | succ i =>
      obtain ⟨a, L', h1, h2, h3, h4, h5, h6⟩ := ih (i := i) h
      exact ⟨a, L', h1, h2, h3, h4, h5, .un h6⟩
  | dat z r ih =>
    intro i ds h
    cases i with
    | zero => cases h
    | succ i =>
      obtain ⟨a, L', h1, h2, h3, h4, h5, h6⟩ := ih (i := i) h
      exact ⟨a, L', h1, h2, h3, h4, h5, .dat (z.mono fun _ nb z => nb z.1) h6⟩
  | pu z r ih =>
    intro i ds h
    cases i with
    | zero => cases h
    | succ i =>
      obtain ⟨a, L', h1, h2, h3, h4, h5, h6⟩ := ih (i := i) h
      exact ⟨a, L', h1, h2, h3, h4, h5, .pu z h6⟩
  | @own L σ τ a vs es h1 h2 h3 h4 h5 r ih =>
    intro i ds h
    cases i with
    | zero =>
      cases h
      exact ⟨a, L, fun b hb => List.mem_cons_of_mem _ hb, List.mem_cons_self, h1, h2, ⟨vs, h4⟩, .dat (.lst (.inl ⟨fun z => z.2 rfl, .inl h4⟩) (h5.mono fun _ nb z => nb z.1)) (r.less h3)⟩
    | succ i =>
      obtain ⟨c, L', g1, g2, g3, g4, g5, g6⟩ := ih (i := i) h
      refine ⟨c, a :: L', fun b hb => ?_, List.mem_cons_of_mem _ g2, g3, g4, g5, .own ⟨h1, fun z => h3 (z ▸ g2)⟩ h2 (fun z => h3 (g1 _ z)) h4 (h5.mono fun _ nb z => nb z.1) g6⟩
      rcases List.mem_cons.mp hb with rfl | hb
      . exact List.mem_cons_self
      . exact List.mem_cons_of_mem _ (g1 _ hb)
theorem S.frz {i : Nat} {ds : List Dat} {τ' : List Sl} (h : τ[i]? = some (.own ds)) (m : S p K t τ' nx rt) (e : τ.set i (.dat (.list ds)) = τ' := by rfl) : S p K t τ nx rt := fun W L σ H D r o q1 q2 => by
  subst e
  obtain ⟨a, L', h1, h2, h3, h4, ⟨vs, h5⟩, h6⟩ := r.frz h
  have keep : ∀ {H' : Hp}, Ev (fun b => W b /\ b ≠ a) H H' -> H' a = some (.lst vs) := fun ev => ev.keep _ _ (fun z => z.2 rfl) h5
  refine m _ L' σ H D h6 ⟨fun q hq => ⟨(o.pu q hq).1, (o.pu q hq).2, fun z => h4 (z ▸ hq)⟩, fun b hb => o.al b hb.1⟩ (fun W' L2 σ' H' τ' n ev ok al wn ln rs => ?_) fun W' H' v s n ev ok al wn rr => ?_
  . refine q1 W' L2 σ' H' τ' n (ev.mono fun _ z => z.1) ok (fun b hb => ?_) (fun b hb => (wn b hb).imp (fun z => z.1) id) (fun b hb => (ln b hb).imp (h1 b) id) rs
    by_cases z : b = a
    . exact ⟨vs, z ▸ keep ev⟩
    . exact al b ⟨hb, z⟩
  . refine q2 W' H' v s n (ev.mono fun _ z => z.1) ok (fun b hb => ?_) (fun b hb => (wn b hb).imp (fun z => z.1) id) ?_
    . by_cases z : b = a
      . exact ⟨vs, z ▸ keep ev⟩
      . exact al b ⟨hb, z⟩
    . cases s with
      | own ds' =>
        obtain ⟨a', vs', e1, e2, e3, e4⟩ := rr
        exact ⟨a', vs', e1, e2.imp (h1 _) id, e3, e4⟩
      | _ => exact rr
end
end D
end
namespace D
open PySem L2 K0 Num
open PySem.W (Dat)
section
section
variable {W : Addr -> Prop}
end
noncomputable def F4 (b : Nat) (f : List Int) : Prop := f.length = 4 /\ (∃ n ∈ f, n ≠ 0) /\ Bd (2 ^ b) f
noncomputable def rb (ns ms : List Int) : List Int := fr (sop ns ms * sop ns ms) (nrm ns * nrm ms)
end
noncomputable def nd (kind : Int) : Nat := if kind = 0 then 1 else if kind = 4 then 3 else 2
theorem T1.andF {p : Option Addr} {K : PySem.W.Frag} {τ : List Sl} {tt tu : TT} (h : T1 p K tt τ false) : T1 p K (tAnd tt tu) τ false := T.and h (fun z => by cases z) fun _ => rfl
noncomputable def pw (ns : List Int) : Nat -> List Int
  | 0 => ns
  | k + 1 => qm ns (pw ns k)
section
end
noncomputable def tn (ns : List Int) : Nat -> List Int
  | 0 => [1, 0, 0, 0]
  | k + 1 => pl (pw ns k)
end D
section
namespace L2
open PySem PySem.Spec PyProof.Rows
section
noncomputable abbrev zs (h : Heap) (sx : Str) (t : Tok) : Heap := h.push { cls := .type "str_ascii_iterator", data := .fields #[.str sx t, .int 0 0] }
end
section
end
end L2
end
section
namespace L2
open PySem PySem.Spec PyProof.Rows
section
end
end L2
namespace D
open PySem L2 K0 Num
open PySem.W (Dat)
section
end
noncomputable def hg (i j k : Nat) : Str := ⟨#[120 + i, 120 + j, 120 + k]⟩
noncomputable def w1 (i : Nat) : Int := if i = 0 then 1 else 0
noncomputable def w2 (i : Nat) : Int := if i = 1 then 1 else 0
noncomputable def w3 (i : Nat) : Int := if i = 2 then 1 else 0
noncomputable def ways : List (Str × List Int) := [("x", [1, 0, 0]), ("y", [0, 1, 0]), ("z", [0, 0, 1])]
noncomputable def hu (f g h : List Int) : List Int := pl (qm f (qm g h))
section
variable {f g h : List Int}
end
end D
end
section
namespace L2
open PySem PySem.Spec PyProof.Rows
section
end
end L2
namespace D
open PySem L2 K0 Num
open PySem.W (Dat)
section
end
noncomputable def hd (i j : Nat) : Int := if (i + 1) % 3 = j then 1 else -1
noncomputable def le3 (i j k : Nat) : Int := if i = k then 0 else hd i j
end D
end
namespace D
open PySem L2 K0 Num
open PySem.W (Dat)
noncomputable def lea (i j k : Nat) (m n : Int) : List Int := ps (m * 1 + n * le3 i j k) (n * 1 - m * le3 i j k)
noncomputable def fstS (p q r s m n : Int) : Int × Int := if p * m + r * n = 0 /\ q * m + s * n = 0 then (p * m * 0 + q * m * 1, q * m * 0 - p * m * 1) else (p * m + r * n, q * m + s * n)
noncomputable def sby (i j k : Nat) (p q r s m n : Int) : Dat := .tuple [tI (ps (fstS p q r s m n).1 (fstS p q r s m n).2), tI (lea i j k m n), tI (ps (p * m * (fstS p q r s m n).2 + q * m * -(fstS p q r s m n).1) (q * m * (fstS p q r s m n).2 - p * m * -(fstS p q r s m n).1))]
noncomputable def rowD (x : List (List Int)) : Dat := .tuple (x.map tI)
section
end
noncomputable def sbyR (i j k : Nat) (p q r s m n : Int) : List (List Int) := [ps (fstS p q r s m n).1 (fstS p q r s m n).2, lea i j k m n, ps (p * m * (fstS p q r s m n).2 + q * m * -(fstS p q r s m n).1) (q * m * (fstS p q r s m n).2 - p * m * -(fstS p q r s m n).1)]
theorem sby_row {i j k : Nat} {p q r s m n : Int} : sby i j k p q r s m n = rowD (sbyR i j k p q r s m n) := rfl
noncomputable def led : List Int -> List Int
  | [a, b, c, d] => [a, d, b, c]
  | x => x
section
noncomputable def Pu3 (N : Nat) (H : Hp) (q : Addr) : Prop := ∃ x c n : Int, H q = some (.lst [.int x, .int c, .int n]) /\ 0 <= n /\ n <= N
structure P3 (q : Addr) (ip N : Nat) (W : Addr -> Prop) (L : List Addr) (σ : St) (H : Hp) : Prop where
  wq : W q
  lq : q ∉ L
  sq : σ[ip]? = some (some (.ref q))
  pu : Pu3 N H q
section
variable (q : Addr) (ip N M : Nat) (K : PySem.W.Frag)
noncomputable def T2 (tt : TT) (τ : List Sl) (C : Bool -> Prop) : Prop := ∀ (W : Addr -> Prop) (L : List Addr) (σ : St) (H : Hp) (Q : Bool -> Hp -> Prop), Rs none W K H L σ τ -> Ok none W H -> P3 q ip N W L σ H -> (∀ b H', C b -> Ev (fun a => a = q) H H' -> Ok none W H' -> Pu3 M H' q -> Q b H') -> tt σ H Q
noncomputable def S2 (ts : TS) (τ : List Sl) (nx : List Sl -> Prop) (rt : Sl -> Prop) : Prop := ∀ (W : Addr -> Prop) (L : List Addr) (σ : St) (H : Hp) (D : Ends), Rs none W K H L σ τ -> Ok none W H -> P3 q ip N W L σ H ->
  (∀ (W' : Addr -> Prop) (L' : List Addr) σ' H' τ', nx τ' -> Ev W H H' -> Ok none W' H' -> (∀ a, W a -> ∃ ys, H' a = some (.lst ys)) -> (∀ a, W' a -> W a \/ H a = none) -> (∀ a, a ∈ L' -> a ∈ L \/ H a = none) -> Rs none W' K H' L' σ' τ' -> P3 q ip M W' L' σ' H' -> D.nx σ' H') ->
  (∀ (W' : Addr -> Prop) H' v s, rt s -> Ev W H H' -> Ok none W' H' -> (∀ a, W a -> ∃ ys, H' a = some (.lst ys)) -> (∀ a, W' a -> W a \/ H a = none) -> Rr none W' K L H H' v s -> Pu3 M H' q -> D.rt v H') -> ts D σ H
end
section
variable {q : Addr} {ip N M : Nat} {K : PySem.W.Frag} {W : Addr -> Prop} {L : List Addr} {σ : St} {H H' : Hp} {τ τ' : List Sl} {v : V} {s : Sl} {nx : List Sl -> Prop} {rt : Sl -> Prop} {tt : TT}
end
end
section
end
theorem sop33 (a b c x y z : Int) : sop [a, b, c] [x, y, z] = a * x + b * y + c * z := by simp [sop]; omega
end D
section
namespace L2
open PySem PySem.Spec PyProof.Rows
noncomputable def TupT (K : PySem.W.Frag) (d : Addr) (ks : List Int) : Prop := ∃ o its n, K.lookup d = some o /\ o.cls = .type "tuple" /\ o.data = .seq its n /\ its.size <= sizeLine /\ Vals (ks.map V.int) its.toList
noncomputable def TupTAt (K : PySem.W.Frag) (x : Str) (ks : List Int) : Prop := ∃ d, PySem.W.nsIn K mainGlobals x = some (some (.ref d)) /\ TupT K d ks
theorem TupTAt.get {K : PySem.W.Frag} {x : Str} {ks : List Int} {h : Heap} {mg : Str -> Option Value} (t : TupTAt K x ks) (Y : K.In h) (G : h.Ns mainGlobals mg) : ∃ d, mg x = some (.ref d) /\ TupT K d ks := by
  obtain ⟨d, a, t⟩ := t
  exact ⟨d, PySem.W.mg_of Y G a, t⟩
theorem TupTAt.four {K : PySem.W.Frag} {x : Str} {d : Addr} {o : Obj} {p q r s : Int} {t1 t2 t3 t4 : _} {n : Nat} (a : PySem.W.nsIn K mainGlobals x = some (some (.ref d))) (l : K.lookup d = some o) (c : o.cls = .type "tuple") (e : o.data = .seq #[.int p t1, .int q t2, .int r t3, .int s t4] n) : TupTAt K x [p, q, r, s] :=
  ⟨d, a, o, _, n, l, c, e, (show 4 <= sizeLine by decide), .cons ⟨_, rfl⟩ (.cons ⟨_, rfl⟩ (.cons ⟨_, rfl⟩ (.cons ⟨_, rfl⟩ .nil)))⟩
end L2
namespace D
open PySem L2 K0 Num
open PySem.W (Dat)
section
variable {p : Option Addr} {q : Addr} {ip N M : Nat} {K : PySem.W.Frag} {W : Addr -> Prop} {L : List Addr} {σ : St} {H H1 : Hp} {τ : List Sl} {s : Sl} {t : TS} {ds : List Dat} {wi : TI}
theorem E1.gT {d : Addr} {ks : List Int} (h : TupT K d ks) : E1 p K (tC (.ref d)) τ (.dat (tI ks)) := fun W L σ H Q rs o k => by
  obtain ⟨ob, its, n, h1, h2, h3, h4, h5⟩ := h
  exact k _ H _ rfl Ev.refl o (.tup (.inr ⟨ob, its, n, h1, h2, h3, h4, h5⟩) (Dzs.ints _))
noncomputable def W2 (q : Addr) (ip N M : Nat) (K : PySem.W.Frag) (wi : TI) (τ : List Sl) (P : List Dat -> Prop) : Prop := ∀ (W : Addr -> Prop) (L : List Addr) (σ : St) (H : Hp) (R : It -> Hp -> Prop), Rs none W K H L σ τ -> Ok none W H -> P3 q ip N W L σ H -> (∀ ds J H1, P ds -> Ev (fun a => a = q) H H1 -> Ok none W H1 -> Pu3 M H1 q -> Jd W K J H1 ds -> R J H1) -> wi σ H R
end
end D
end
section
namespace L2
open PySem PySem.Spec PyProof.Rows
end L2
namespace D
open PySem L2 K0 Num
open PySem.W (Dat)
section
end
theorem deq_tI {x y : List Int} : deq (tI x) (tI y) = decide (x = y) := deq_tup
end D
end
namespace D
open PySem L2 K0 Num
open PySem.W (Dat)
noncomputable def n4 (a b c e : Int) : Int := a * a + b * b + c * c + e * e
noncomputable def RRsum : List Dat -> Dat -> Prop := fun ds d => ∃ a b c e f g : Int, ds = [tI [a, b, c], tI [e, f, g]] /\ d = tI [a + e, b + f, c + g]
section
noncomputable def gNs : List Nat -> TGs
  | [] => gNil
  | i :: r => gCons (gName i) (gNs r)
noncomputable def sets : List Sl -> List Nat -> List Dat -> List Sl
  | τ, i :: is, d :: ds => sets (τ.set i (.dat d)) is ds
  | τ, _, _ => τ
section
variable {p : Option Addr} {K : PySem.W.Frag} {W : Addr -> Prop} {L : List Addr} {σ : St} {H : Hp} {τ τ' : List Sl} {q : Addr}
theorem gNs_run {Q : St -> Hp -> Prop} : ∀ {is : List Nat} {ds : List Dat} {vs : List V} {τ : List Sl} {σ : St} {L : List Addr}, is.length = ds.length -> Rs p W K H L σ τ -> Dzs (fun a => ¬ W a) K H vs ds -> (∀ L' σ', (∀ a, a ∈ L' -> a ∈ L) -> Rs p W K H L' σ' (sets τ is ds) -> Q σ' H) -> gNs is vs σ H Q
  | [], [], vs, τ, σ, L, _, r, z, k => by
    cases z
    exact ⟨rfl, k L σ (fun _ h => h) r⟩
  | i :: is, d :: ds, vs, τ, σ, L, hl, r, z, k => by
    cases z with
    | cons a t =>
      obtain ⟨L1, l1, r1⟩ := r.set (s := .dat d) (.inr (.inl ⟨d, rfl, a⟩)) i
      exact ⟨_, _, rfl, gNs_run (by simpa using hl) r1 t fun L' σ' l' r' => k L' σ' (fun a ha => l1 a (l' a ha)) r'⟩
  | [], _ :: _, _, _, _, _, hl, _, _, _ => by cases hl
  | _ :: _, [], _, _, _, _, hl, _, _, _ => by cases hl
theorem Gd.lst {is : List Nat} {ds : List Dat} {n : Nat} (hl : is.length = ds.length) (hn : ds.length = n := by rfl) (e : sets τ is ds = τ' := by rfl) : Gd p K (gLst K n (gNs is)) (.list ds) τ τ' := fun W L σ H v Q r z q => by
  subst e
  cases z with
  | lst h1 h2 => exact ⟨_, _, rfl, h1.sq, by rw [h2.len, hn], gNs_run hl r h2 q⟩
end
end
section
noncomputable def spQ (K : PySem.W.Frag) (R : List Dat -> (Dat -> Prop) -> Prop) : Sp := fun vs H Q _ => ∃ ds C, Dzs (fun _ => True) K H vs ds /\ R ds C /\ ∀ v H' d, C d -> Same H H' -> Dz (fun a => H a = none) K H' v d -> Q v H'
section
variable {p : Option Addr} {K : PySem.W.Frag} {W : Addr -> Prop} {L : List Addr} {σ : St} {H H1 : Hp} {τ τ' : List Sl} {tas : TA} {v : V} {s : Sl} {t : TS} {ds : List Dat} {E' : XK}
theorem E.callQ {R : List Dat -> (Dat -> Prop) -> Prop} {ss : List Sl} {ds : List Dat} {C : Dat -> Prop} (ha : A1 p K tas τ ss) (hr : R ds C) (hd : datsOf ss = some ds := by rfl) : E p K (tCall (spQ K R) [] E' tas) τ (fun s => ∃ d, s = .dat d /\ C d) := fun W L σ H Q rs o q => ha W L σ H _ rs o fun vs H1 ss e e1 o1 rv => by
  subst e
  rw [List.append_nil]
  exact ⟨ds, C, rv.dz hd, hr, fun v H' d c s z => q v H' _ ⟨d, rfl, c⟩ (e1.trans (Ev.of s)) (o1.same s) (z.mono fun a ha => o1.fresh ha)⟩
variable {P : Program} {w : World} {mg : Str -> Option Value} {base : Heap}
theorem okQ {x qual : Str} {st : Stmt} {f : Addr} {fd : FuncData} {N ps : List Str} {k : Nat} {R : List Dat -> (Dat -> Prop) -> Prop} (F : Fun K x qual st f fd) (S0 : FnScope N ps (defScope st)) (len : ∀ ds C, R ds C -> ds.length = ps.length)
    (body : ∀ (cdv : Value) (A : Around) (outer : List Env) (s : Shared) (H : Hp) (E : XK), Room k (A.deeper (PyProof.Rows.envOfC qual (defScope st) s.heap.objs.size f cdv)) ->
      ∃ t, ZSs (cxOf CX0 P w K mg base N qual (defScope st) f cdv A outer s H E).nox (defBody st) t /\ ∀ ds C, R ds C -> S none K t (ds.map .dat ++ List.replicate (N.length - ps.length) .un) (fun _ => False) (fun s => ∃ d, C d /\ Gives d s)) : FnOk P w K mg base CX0 (k + 1) f fd ps (spQ K R) := by
  refine F.okZ S0 (fun vs H Q E h => ?_) (fun cdv A outer s H vs Q E hr h => ?_)
  . obtain ⟨ds, C, z, r, _⟩ := h; rw [z.len]; exact len ds C r
  . obtain ⟨ds, C, z, r, q⟩ := h
    obtain ⟨t, hz, hs⟩ := body cdv A outer s H E hr
    refine ⟨t, hz, ?_⟩
    have l : vs.length = ps.length := by rw [z.len]; exact len ds C r
    have r0 : Rs none (fun _ => False) K H [] (L2.start N vs) (ds.map .dat ++ List.replicate (N.length - ps.length) .un) := by
      unfold L2.start
      rw [l]
      exact rs_start _ z fun a _ h => h
    have same : ∀ {H' : Hp}, Ev (fun _ => False) H H' -> Same H H' := fun e b o h => e.keep b o (fun z => z) h
    refine hs ds C r (fun _ => False) [] _ H _ r0 ⟨fun q h => (by cases h), fun a h => False.elim h⟩ (fun W' L' σ' H' τ' e ev o' al n l r' => e.elim) (fun W' H' v s e ev o' al n rv => ?_)
    obtain ⟨d, c, e⟩ := e
    cases s with
    | dat d' =>
      obtain ⟨rfl, nl⟩ := e
      exact q v H' _ c (same ev) (Dz.free rv nl)
    | own es =>
      obtain ⟨rfl, nl⟩ := e
      obtain ⟨a, vs, rfl, h1, h2, h3⟩ := rv
      have h0 : H a = none := h1.resolve_left (fun z => by cases z)
      exact q _ H' _ c (same ev) (.lst (.inl ⟨h0, .inl h2⟩) (Dzs.free h3 nl))
    | _ => exact e.elim
end
noncomputable def In (a b c d e f x y z : Int) : Prop := ∃ m1 m2 m3 : Int, x = m1 * a + m2 * b + m3 * d /\ y = m2 * c + m3 * e /\ z = m3 * f
structure Hnf (a b c d e f : Int) : Prop where
  a0 : 0 < a
  c0 : 0 < c
  f0 : 0 < f
  b0 : 0 <= b
  b1 : b < a
  d0 : 0 <= d
  d1 : d < a
  e0 : 0 <= e
  e1 : e < c
end
end D
section
namespace L2
open PySem PySem.Spec PyProof.Rows
noncomputable def TupTT (K : PySem.W.Frag) (d : Addr) (rows : List (List Int)) : Prop := ∃ o its n a1 a2 a3 r1 r2 r3, K.lookup d = some o /\ o.cls = .type "tuple" /\ o.data = .seq its n /\ its = #[.ref a1, .ref a2, .ref a3] /\ rows = [r1, r2, r3] /\ TupT K a1 r1 /\ TupT K a2 r2 /\ TupT K a3 r3
noncomputable def TupTTAt (K : PySem.W.Frag) (x : Str) (rows : List (List Int)) : Prop := ∃ d, PySem.W.nsIn K mainGlobals x = some (some (.ref d)) /\ TupTT K d rows
theorem TupTTAt.get {K : PySem.W.Frag} {x : Str} {rows : List (List Int)} {h : Heap} {mg : Str -> Option Value} (t : TupTTAt K x rows) (Y : K.In h) (G : h.Ns mainGlobals mg) : ∃ d, mg x = some (.ref d) /\ TupTT K d rows := by
  obtain ⟨d, a, t⟩ := t
  exact ⟨d, PySem.W.mg_of Y G a, t⟩
theorem TupTTAt.three {K : PySem.W.Frag} {x : Str} {d a1 a2 a3 : Addr} {o : Obj} {r1 r2 r3 : List Int} {n : Nat} (a : PySem.W.nsIn K mainGlobals x = some (some (.ref d))) (l : K.lookup d = some o) (c : o.cls = .type "tuple") (e : o.data = .seq #[.ref a1, .ref a2, .ref a3] n) (h1 : TupT K a1 r1) (h2 : TupT K a2 r2) (h3 : TupT K a3 r3) : TupTTAt K x [r1, r2, r3] :=
  ⟨d, a, o, _, n, a1, a2, a3, r1, r2, r3, l, c, e, rfl, rfl, h1, h2, h3⟩
end L2
namespace D
open PySem L2 K0 Num
open PySem.W (Dat)
noncomputable def units : List (List Int) := [[1, 0, 0], [0, 1, 0], [0, 0, 1]]
theorem E1.gTT {p : Option Addr} {K : PySem.W.Frag} {τ : List Sl} {d : Addr} {rows : List (List Int)} (h : TupTT K d rows) : E1 p K (tC (.ref d)) τ (.dat (.tuple (rows.map tI))) := fun W L σ H Q rs o k => by
  obtain ⟨ob, its, n, a1, a2, a3, r1, r2, r3, h1, h2, h3, h4, h5, t1, t2, t3⟩ := h
  subst h4 h5
  have one : ∀ {a : Addr} {r : List Int}, TupT K a r -> Dz (fun a => ¬ W a) K H (.ref a) (tI r) := fun t => by
    obtain ⟨ob, its, n, h1, h2, h3, h4, h5⟩ := t
    exact .tup (.inr ⟨ob, its, n, h1, h2, h3, h4, h5⟩) (Dzs.ints _)
  exact k _ H _ rfl Ev.refl o (.tup (xs := [.ref a1, .ref a2, .ref a3]) (.inr ⟨ob, _, n, h1, h2, h3, (show 3 <= sizeLine by decide), .cons rfl (.cons rfl (.cons rfl .nil))⟩) (.cons (one t1) (.cons (one t2) (.cons (one t3) .nil))))
noncomputable def Kpt (F : List Int) (x y z : Int) : Prop := ∀ a b c e : Int, pl F = [a, b, c, e] -> (sop (pl F) (pl F) ∣ sop (rw1 a b c e) [x, y, z]) /\ (sop (pl F) (pl F) ∣ sop (rw2 a b c e) [x, y, z]) /\ (sop (pl F) (pl F) ∣ sop (rw3 a b c e) [x, y, z])
noncomputable def KptA (fs : List (List Int)) (x y z : Int) : Prop := ∀ F ∈ fs, Kpt F x y z
noncomputable def Rows (fs : List (List Int)) (a b c d e f : Int) : Prop := Hnf a b c d e f /\ ∀ x y z, In a b c d e f x y z ↔ KptA fs x y z
end D
end
namespace D
open PySem L2 K0 Num
open PySem.W (Dat)
section
noncomputable def FB (C : Int) (c : Nat) (x : Rat) : Prop := ∃ t : Int, Bt t c /\ qv t C = x
noncomputable def RP (P : Rat -> Prop) (r : Row3) : Prop := P r.x /\ P r.y /\ P r.z
noncomputable def TabP (P : Rat -> Prop) (a b d : Row3) : Prop := RP P a /\ RP P b /\ RP P d
noncomputable def TB (c : Nat) (a b d : Row3) : Prop := ∃ C : Int, 0 < C /\ Bt C c /\ TabP (FB C c) a b d
theorem RP.mono {P Q : Rat -> Prop} {r : Row3} (h : RP P r) (m : ∀ x, P x -> Q x) : RP Q r := ⟨m _ h.1, m _ h.2.1, m _ h.2.2⟩
theorem TabP.mono {P Q : Rat -> Prop} {a b d : Row3} (h : TabP P a b d) (m : ∀ x, P x -> Q x) : TabP Q a b d := ⟨h.1.mono m, h.2.1.mono m, h.2.2.mono m⟩
theorem FB.up {C : Int} {c c' : Nat} {x : Rat} (h : FB C c x) (l : c <= c') : FB C c' x := by
  obtain ⟨t, ht, e⟩ := h
  exact ⟨t, ht.up l, e⟩
theorem FB.scale {C k : Int} {c m : Nat} {x : Rat} (h : FB C c x) (hk : k ≠ 0) (hC : C ≠ 0) (bk : Bt k m) : FB (C * k) (c + m) x := by
  obtain ⟨t, ht, e⟩ := h
  refine ⟨t * k, ht.mul bk, ?_⟩
  subst e
  have h1 := cast_ne hk
  have h2 := cast_ne hC
  unfold qv
  push_cast
  grind
theorem FB.neg {C : Int} {c : Nat} {x : Rat} (h : FB C c x) : FB C c (-x) := by
  obtain ⟨t, ht, e⟩ := h
  refine ⟨-t, Bt.neg' ht, ?_⟩
  subst e
  unfold qv
  push_cast
  grind
theorem FB.add {C : Int} {c : Nat} {x y : Rat} (h : FB C c x) (g : FB C c y) : FB C (c + 1) (x + y) := by
  obtain ⟨t, ht, e⟩ := h
  obtain ⟨u, hu, f⟩ := g
  refine ⟨t + u, (ht.add hu).up (by omega), ?_⟩
  subst e f
  unfold qv
  push_cast
  grind
section
variable {C : Int} {c : Nat} {x y u : Rat}
end
theorem qf_one (x : Rat) : qf (x + 1) = [x.num + x.den, (x.den : Int)] := by
  have h : x + 1 = qv (x.num + x.den) x.den := by
    have hx := qf_val x
    have := cast_ne (show (x.den : Int) ≠ 0 by have := x.den_pos; omega)
    unfold qv at hx ⊢
    push_cast at hx this ⊢
    grind
  have g : Nat.gcd (x.num + x.den).natAbs x.den = 1 := by
    have := x.reduced
    unfold Nat.Coprime at this
    have e : Int.gcd (x.num + x.den) x.den = Int.gcd x.num x.den := by
      rw [Int.gcd_add_self_left]
    unfold Int.gcd at e
    rw [Int.natAbs_natCast] at e
    rw [e, this]
  have l : Lo ((x.num + x.den).natAbs + x.den) (x.num + x.den) x.den (x + 1) := ⟨by have := x.den_pos; omega, by rw [Int.natAbs_natCast]; exact g, Nat.le_trans (Nat.le_of_lt Nat.lt_two_pow_self) (Nat.pow_le_pow_right (by decide) (Nat.le_add_right _ _)), by unfold Bt; rw [Int.natAbs_natCast]; exact Nat.le_trans (Nat.le_of_lt Nat.lt_two_pow_self) (Nat.pow_le_pow_right (by decide) (Nat.le_add_left _ _)), h.symm⟩
  exact (lo_is l).symm
end
noncomputable def Row3.neg (r : Row3) : Row3 := ⟨-r.x, -r.y, -r.z⟩
theorem ent_eq {q : Rat} {t N : Int} (hN : N ≠ 0) : q.num * N = q.den * t ↔ q = qv t N := by
  have hd : (q.den : Int) ≠ 0 := by have := q.den_pos; omega
  constructor
  . intro h
    rw [<- qf_val q]
    exact qv_of hd hN (by rw [h]; grind)
  . intro h
    have e := qf_val q
    have c1 := cast_ne hd
    have c2 := cast_ne hN
    have : (q.num : Rat) * N = q.den * t := by
      unfold qv at e h
      push_cast at c1 e
      rw [h] at e
      rw [<- h] at e
      grind
    exact_mod_cast this
section
noncomputable def Row3.sum (r s : Row3) (p q : Rat) : Row3 := ⟨r.x * p + s.x * q, r.y * p + s.y * q, r.z * p + s.z * q⟩
noncomputable def Row3.cr (r s : Row3) : Row3 := ⟨r.y * s.z + r.z * -s.y, r.z * s.x + r.x * -s.z, r.x * s.y + r.y * -s.x⟩
section
variable {r s a b d : Row3}
theorem row_at {i : Int} (h : 0 <= i /\ i < 3) : ∃ r : Row3, atI [a.d, b.d, d.d] i = some r.d /\ ∀ P, TabP P a b d -> RP P r := by
  rcases (show i = 0 \/ i = 1 \/ i = 2 by omega) with rfl | rfl | rfl
  . exact ⟨a, rfl, fun P h => h.1⟩
  . exact ⟨b, rfl, fun P h => h.2.1⟩
  . exact ⟨d, rfl, fun P h => h.2.2⟩
theorem ent_at {j : Int} (h : 0 <= j /\ j < 3) : ∃ y : Rat, atI [tI (qf r.x), tI (qf r.y), tI (qf r.z)] j = some (tI (qf y)) /\ ∀ P : Rat -> Prop, RP P r -> P y := by
  rcases (show j = 0 \/ j = 1 \/ j = 2 by omega) with rfl | rfl | rfl
  . exact ⟨r.x, rfl, fun P h => h.1⟩
  . exact ⟨r.y, rfl, fun P h => h.2.1⟩
  . exact ⟨r.z, rfl, fun P h => h.2.2⟩
end
end
theorem qf_inj {x y : Rat} (h : qf x = qf y) : x = y := by
  unfold qf at h
  injection h with h1 h2
  injection h2 with h2 _
  rw [<- qf_val x, <- qf_val y, h1, h2]
theorem deq_qf {x y : Rat} : deq (tI (qf x)) (tI (qf y)) = decide (x = y) := by
  rw [deq_tI]
  exact decide_eq_decide.mpr ⟨qf_inj, fun h => by rw [h]⟩
noncomputable def tw (P1 P2 P3 : Prop) : Nat -> Prop
  | 0 => True
  | 1 => P1
  | 2 => P1 /\ P2
  | _ => P1 /\ P2 /\ P3
noncomputable def topL (L : Int) (q : Rat) : Int := q.num * (L / q.den)
noncomputable def sndD : Dat -> Dat
  | .tuple [_, e] => e
  | d => d
noncomputable def topD (L : Int) : Dat -> Dat
  | .tuple [.int n, .int m] => .int (n * (L / m))
  | d => d
theorem snd_qf (q : Rat) : sndD (tI (qf q)) = .int (q.den : Int) := rfl
theorem top_qf (L : Int) (q : Rat) : topD L (tI (qf q)) = .int (topL L q) := rfl
theorem FB.den {B : Int} {c : Nat} {q : Rat} (h : FB B c q) (h0 : 0 < B) : (q.den : Int) ∣ B := by
  obtain ⟨t, _, e⟩ := h
  have h1 : q.num * B = q.den * t := (ent_eq (by omega)).mpr e.symm
  have h2 : (q.den : Int) ∣ q.num * B := ⟨t, h1⟩
  have h3 : q.den ∣ (q.num * B).natAbs := by
    have := Int.natAbs_dvd_natAbs.mpr h2
    rw [Int.natAbs_natCast] at this; exact this
  rw [Int.natAbs_mul] at h3
  have h4 : q.den ∣ B.natAbs := (Nat.Coprime.symm q.reduced).dvd_of_dvd_mul_left h3
  obtain ⟨n, rfl⟩ := Int.eq_ofNat_of_zero_le (Int.le_of_lt h0)
  exact Int.natCast_dvd_natCast.mpr (by simpa using h4)
theorem topL_val {L : Int} {q : Rat} (h : (q.den : Int) ∣ L) : (topL L q : Rat) = L * q := by
  obtain ⟨k, rfl⟩ := h
  have hd : (q.den : Int) ≠ 0 := by have := q.den_pos; omega
  unfold topL
  rw [Int.mul_ediv_cancel_left _ hd]
  have e := qf_val q
  have c1 := cast_ne hd
  unfold qv at e
  push_cast at e c1 ⊢
  grind
theorem topL_bt {B L : Int} {c : Nat} {q : Rat} (h : FB B c q) (h0 : 0 < B) (L0 : 0 < L) (d1 : L ∣ B) (d2 : (q.den : Int) ∣ L) : Bt (topL L q) c := by
  obtain ⟨t, ht, e⟩ := h
  have h1 := topL_val d2
  obtain ⟨k, rfl⟩ := d1
  have k0 : k ≠ 0 := fun z => by subst z; omega
  have e2 : topL L q * k = t := by
    have c1 := cast_ne (show L ≠ 0 by omega)
    have c2 := cast_ne k0
    have : ((topL L q : Int) : Rat) * k = t := by
      rw [h1, <- e]
      unfold qv
      push_cast
      grind
    exact_mod_cast this
  unfold Bt at ht ⊢
  rw [<- e2, Int.natAbs_mul] at ht
  exact Nat.le_trans (Nat.le_mul_of_pos_right _ (by omega)) ht
theorem bd4_of {w x y z : Int} {k : Nat} (h1 : Bt w k) (h2 : Bt x k) (h3 : Bt y k) (h4 : Bt z k) : Bd (2 ^ k) [w, x, y, z] := fun n hn => by
  simp only [List.mem_cons, List.mem_nil_iff, or_false] at hn
  rcases hn with rfl | rfl | rfl | rfl
  . exact h1
  . exact h2
  . exact h3
  . exact h4
theorem levn_nl {xs : List Int} {L : Int} : noL (.tuple [tI xs, .int L]) = true := by
  rw [noL, noLs, noLs, noLs, noL, noLs_ints]
  rfl
theorem tab_mem {P : Rat -> Prop} {a b d : Row3} (h : TabP P a b d) : ∀ q ∈ [a.x, a.y, a.z, b.x, b.y, b.z, d.x, d.y, d.z], P q := fun q hq => by
  simp only [List.mem_cons, List.mem_nil_iff, or_false] at hq
  obtain ⟨⟨h1, h2, h3⟩, ⟨h4, h5, h6⟩, h7, h8, h9⟩ := h
  rcases hq with rfl | rfl | rfl | rfl | rfl | rfl | rfl | rfl | rfl <;> assumption
end D
section
namespace L2
open PySem PySem.Spec PyProof.Rows
end L2
namespace D
open PySem L2 K0 Num
open PySem.W (Dat)
noncomputable def flatD : Sl -> Bool
  | .un => true
  | .dat _ => true
  | _ => false
noncomputable def flatDs : List Sl -> Bool
  | [] => true
  | s :: r => flatD s && flatDs r
noncomputable def GivesX (d : Dat) : Sl -> Prop
  | .dat e => d = e
  | .own ds => d = .list ds
  | _ => False
theorem Rs.reset {p : Option Addr} {W W' : Addr -> Prop} {K : PySem.W.Frag} {H : Hp} {L : List Addr} {σ : St} {τ : List Sl} (r : Rs p W K H L σ τ) (m : ∀ a, W' a -> W a) : flatDs τ = true -> Rs none W' K H [] σ τ := by
  induction r with
  | nil => intro _; exact .nil
  | un _ ih => intro h; rw [flatDs, flatD, Bool.true_and] at h; exact .un (ih h)
  | dat z _ ih => intro h; rw [flatDs, flatD, Bool.true_and] at h; exact .dat (z.mono fun a n y => n (m a y)) (ih h)
  | pu _ _ _ => intro h; rw [flatDs] at h; exact absurd (Bool.and_eq_true_iff.mp h).1 (by decide)
  | own _ _ _ _ _ _ _ => intro h; rw [flatDs] at h; exact absurd (Bool.and_eq_true_iff.mp h).1 Bool.false_ne_true
section
variable {p : Option Addr} {K : PySem.W.Frag} {W : Addr -> Prop} {L : List Addr} {σ : St} {H : Hp} {τ : List Sl} {s : Sl} {ds : List Dat}
end
end D
end
namespace D
open PySem L2 K0 Num
open PySem.W (Dat)
section
noncomputable def Row3.sub (r s : Row3) : Row3 := ⟨r.x - s.x, r.y - s.y, r.z - s.z⟩
noncomputable def Row3.add (r s : Row3) : Row3 := ⟨r.x + s.x, r.y + s.y, r.z + s.z⟩
noncomputable def Row3.sm (k : Rat) (r : Row3) : Row3 := ⟨k * r.x, k * r.y, k * r.z⟩
noncomputable def Row3.cx (r s : Row3) : Row3 := ⟨r.y * s.z - r.z * s.y, r.z * s.x - r.x * s.z, r.x * s.y - r.y * s.x⟩
noncomputable def rot (w : Rat) (v r : Row3) : Row3 := ⟨R1 w v.x v.y v.z r.x r.y r.z, K0.R2 w v.x v.y v.z r.x r.y r.z, R3 w v.x v.y v.z r.x r.y r.z⟩
noncomputable def nq (w : Rat) (v : Row3) : Rat := N4 w v.x v.y v.z
theorem Row3.ext' {r s : Row3} (h1 : r.x = s.x) (h2 : r.y = s.y) (h3 : r.z = s.z) : r = s := by
  obtain ⟨a, b, c⟩ := r
  obtain ⟨d, e, f⟩ := s
  dsimp only at h1 h2 h3
  rw [h1, h2, h3]
theorem rot_of {w x y z a b c p q t : Rat} (h1 : w * (p - a) = y * (t + c) - z * (q + b)) (h2 : w * (q - b) = z * (p + a) - x * (t + c)) (h3 : w * (t - c) = x * (q + b) - y * (p + a)) (h4 : x * (p - a) + y * (q - b) + z * (t - c) = 0) :
    R1 w x y z a b c = N4 w x y z * p /\ K0.R2 w x y z a b c = N4 w x y z * q /\ R3 w x y z a b c = N4 w x y z * t := by
  unfold R1 K0.R2 R3 N4
  refine ⟨?_, ?_, ?_⟩ <;> grind
theorem pair_of {a b c p q t d e f u v w : Rat} (g1 : a * a + b * b + c * c = p * p + q * q + t * t) (g2 : d * d + e * e + f * f = u * u + v * v + w * w) (g3 : a * d + b * e + c * f = p * u + q * v + t * w)
    {W X Y Z : Rat} (hW : W = (p - a) * (d + u) + (q - b) * (e + v) + (t - c) * (f + w)) (hX : X = (q - b) * (w - f) - (t - c) * (v - e)) (hY : Y = (t - c) * (u - d) - (p - a) * (w - f)) (hZ : Z = (p - a) * (v - e) - (q - b) * (u - d)) :
    (W * (p - a) = Y * (t + c) - Z * (q + b) /\ W * (q - b) = Z * (p + a) - X * (t + c) /\ W * (t - c) = X * (q + b) - Y * (p + a) /\ X * (p - a) + Y * (q - b) + Z * (t - c) = 0) /\
    (W * (u - d) = Y * (w + f) - Z * (v + e) /\ W * (v - e) = Z * (u + d) - X * (w + f) /\ W * (w - f) = X * (v + e) - Y * (u + d) /\ X * (u - d) + Y * (v - e) + Z * (w - f) = 0) := by
  subst hW hX hY hZ
  refine ⟨⟨?_, ?_, ?_, ?_⟩, ?_, ?_, ?_, ?_⟩ <;> grind
structure Gram (r1 r2 s1 s2 : Row3) : Prop where
  a : r1.dot r1 = s1.dot s1
  b : r2.dot r2 = s2.dot s2
  c : r1.dot r2 = s1.dot s2
noncomputable def Tn (w : Rat) (v r s : Row3) : Prop := rot w v r = Row3.sm (nq w v) s
section
variable {w : Rat} {v r s r' s' r1 r2 s1 s2 a b : Row3} {k : Rat}
theorem tn_pair (g : Gram r1 r2 s1 s2) (hw : w = (s1.sub r1).dot (r2.add s2)) (hv : v = (s1.sub r1).cx (s2.sub r2)) : Tn w v r1 s1 /\ Tn w v r2 s2 := by
  obtain ⟨g1, g2, g3⟩ := g
  obtain ⟨a, b, c⟩ := r1
  obtain ⟨p, q, t⟩ := s1
  obtain ⟨d, e, f⟩ := r2
  obtain ⟨u, y, z⟩ := s2
  unfold Row3.dot at g1 g2 g3
  dsimp only at g1 g2 g3
  subst hv
  have h := pair_of g1 g2 g3 (W := w) (by rw [hw]; rfl) rfl rfl rfl
  obtain ⟨⟨h1, h2, h3, h4⟩, h5, h6, h7, h8⟩ := h
  have k1 := rot_of h1 h2 h3 h4
  have k2 := rot_of h5 h6 h7 h8
  exact ⟨Row3.ext' k1.1 k1.2.1 k1.2.2, Row3.ext' k2.1 k2.2.1 k2.2.2⟩
theorem rot_cx : (rot w v a).cx (rot w v b) = Row3.sm (nq w v) (rot w v (a.cx b)) := by
  obtain ⟨x, y, z⟩ := v
  obtain ⟨d, e, f⟩ := a
  obtain ⟨p, q, t⟩ := b
  unfold rot Row3.cx Row3.sm nq N4 R1 K0.R2 R3
  dsimp only
  congr 1 <;> grind
theorem rot_add : rot w v (a.add b) = (rot w v a).add (rot w v b) := by
  unfold rot Row3.add R1 K0.R2 R3
  dsimp only
  congr 1 <;> grind
theorem rot_sm : rot w v (Row3.sm k a) = Row3.sm k (rot w v a) := by
  unfold rot Row3.sm R1 K0.R2 R3
  dsimp only
  congr 1 <;> grind
theorem sm_cancel (hk : k ≠ 0) (h : Row3.sm k a = Row3.sm k b) : a = b := by
  unfold Row3.sm at h
  injection h with h1 h2 h3
  exact Row3.ext' (by grind) (by grind) (by grind)
theorem Tn.cx (h : Tn w v r s) (h' : Tn w v r' s') (n : nq w v ≠ 0) : Tn w v (r.cx r') (s.cx s') := by
  refine sm_cancel n ?_
  rw [<- rot_cx, h, h']
  generalize nq w v = N
  unfold Row3.cx Row3.sm
  dsimp only
  congr 1 <;> grind
theorem Tn.add (h : Tn w v r s) (h' : Tn w v r' s') : Tn w v (r.add r') (s.add s') := by
  unfold Tn at *
  rw [rot_add, h, h']
  unfold Row3.add Row3.sm
  dsimp only
  congr 1 <;> grind
theorem Tn.sm (h : Tn w v r s) : Tn w v (Row3.sm k r) (Row3.sm k s) := by
  unfold Tn at *
  rw [rot_sm, h]
  unfold Row3.sm
  dsimp only
  congr 1 <;> grind
theorem Tn.div (hk : k ≠ 0) (h : Tn w v (Row3.sm k r) (Row3.sm k s)) : Tn w v r s := by
  unfold Tn at *
  rw [rot_sm] at h
  refine sm_cancel hk ?_
  rw [h]
  unfold Row3.sm
  dsimp only
  congr 1 <;> grind
theorem by13 : ((r1.cx r2).cx r1).add (Row3.sm (r1.dot r2) r1) = Row3.sm (r1.dot r1) r2 := by
  unfold Row3.cx Row3.add Row3.sm Row3.dot
  dsimp only
  congr 1 <;> grind
theorem by23 : (r2.cx (r1.cx r2)).add (Row3.sm (r1.dot r2) r2) = Row3.sm (r2.dot r2) r1 := by
  unfold Row3.cx Row3.add Row3.sm Row3.dot
  dsimp only
  congr 1 <;> grind
theorem Gram.third (g : Gram r1 r2 s1 s2) : (r1.cx r2).dot (r1.cx r2) = (s1.cx s2).dot (s1.cx s2) := by
  obtain ⟨g1, g2, g3⟩ := g
  have id : ∀ a b : Row3, (a.cx b).dot (a.cx b) = a.dot a * b.dot b - a.dot b * a.dot b := fun a b => by
    unfold Row3.cx Row3.dot
    dsimp only
    grind
  rw [id, id, g1, g2, g3]
theorem dot_cx1 : r1.dot (r1.cx r2) = 0 := by unfold Row3.cx Row3.dot; dsimp only; grind
theorem dot_cx2 : r2.dot (r1.cx r2) = 0 := by unfold Row3.cx Row3.dot; dsimp only; grind
theorem tn_13 (g : Gram r1 r2 s1 s2) (hw : w = (s1.sub r1).dot ((r1.cx r2).add (s1.cx s2))) (hv : v = (s1.sub r1).cx ((s1.cx s2).sub (r1.cx r2))) (n : nq w v ≠ 0) (n1 : r1.dot r1 ≠ 0) : Tn w v r1 s1 /\ Tn w v r2 s2 := by
  obtain ⟨h1, h3⟩ := tn_pair (r2 := r1.cx r2) (s2 := s1.cx s2) ⟨g.a, g.third, by rw [dot_cx1, dot_cx1]⟩ hw hv
  refine ⟨h1, Tn.div n1 ?_⟩
  have h := (h3.cx h1 n).add (h1.sm (k := r1.dot r2))
  rw [by13] at h
  rw [g.c, by13, <- g.a] at h
  exact h
theorem tn_23 (g : Gram r1 r2 s1 s2) (hw : w = (s2.sub r2).dot ((r1.cx r2).add (s1.cx s2))) (hv : v = (s2.sub r2).cx ((s1.cx s2).sub (r1.cx r2))) (n : nq w v ≠ 0) (n2 : r2.dot r2 ≠ 0) : Tn w v r1 s1 /\ Tn w v r2 s2 := by
  obtain ⟨h2, h3⟩ := tn_pair (r1 := r2) (s1 := s2) (r2 := r1.cx r2) (s2 := s1.cx s2) ⟨g.b, g.third, by rw [dot_cx2, dot_cx2]⟩ hw hv
  refine ⟨Tn.div n2 ?_, h2⟩
  have h := (h2.cx h3 n).add (h2.sm (k := r1.dot r2))
  rw [by23] at h
  rw [g.c, by23, <- g.b] at h
  exact h
end
noncomputable def r0 : Row3 := ⟨0, 0, 0⟩
theorem sq_nn (x : Rat) : 0 <= x * x := by
  rcases Rat.le_total (a := 0) (b := x) with h | h
  . exact Rat.mul_nonneg h h
  . have e : x * x = (-x) * (-x) := by grind
    rw [e]
    have h' : 0 <= -x := by grind
    exact Rat.mul_nonneg h' h'
theorem sq0 {r : Row3} (h : r.dot r = 0) : r = r0 := by
  unfold Row3.dot at h
  have h1 := sq_nn r.x
  have h2 := sq_nn r.y
  have h3 := sq_nn r.z
  have e1 : r.x * r.x = 0 := by grind
  have e2 : r.y * r.y = 0 := by grind
  have e3 : r.z * r.z = 0 := by grind
  exact Row3.ext' (by unfold r0; grind) (by unfold r0; grind) (by unfold r0; grind)
section
variable {w w' : Rat} {v v' u r s r1 r2 s1 s2 a b : Row3} {k : Rat}
theorem par0 (h : v.cx u = r0) (h2 : v.dot u = 0) (hu : u.dot u ≠ 0) : v = r0 := by
  refine sq0 ?_
  have id : v.dot v * u.dot u = (v.cx u).dot (v.cx u) + v.dot u * v.dot u := by
    unfold Row3.cx Row3.dot
    dsimp only
    grind
  rw [h, h2] at id
  have z : r0.dot r0 = 0 := by unfold r0 Row3.dot; grind
  rw [z] at id
  grind
theorem dot_cxr : (a.cx b).dot b = 0 := by unfold Row3.cx Row3.dot; dsimp only; grind
theorem cx_anti (h : a.cx b = r0) : b.cx a = r0 := by
  unfold Row3.cx r0 at *
  injection h with h1 h2 h3
  congr 1 <;> grind
theorem add_sub : a.add (b.sub a) = b := by
  unfold Row3.add Row3.sub
  exact Row3.ext' (by dsimp only; grind) (by dsimp only; grind) (by dsimp only; grind)
theorem none_added (g : Gram r1 r2 s1 s2) (n3 : r1.cx r2 ≠ r0) (h12 : (s1.sub r1).cx (s2.sub r2) = r0) (h13 : (s1.sub r1).cx ((s1.cx s2).sub (r1.cx r2)) = r0) (h23 : (s2.sub r2).cx ((s1.cx s2).sub (r1.cx r2)) = r0) : s1 = r1 /\ s2 = r2 := by
  have e1 := add_sub (a := r1) (b := s1)
  have e2 := add_sub (a := r2) (b := s2)
  generalize hd1 : s1.sub r1 = d1 at *
  generalize hd2 : s2.sub r2 = d2 at *
  clear hd1 hd2
  subst e1 e2
  obtain ⟨ga, gb, gc⟩ := g
  by_cases n1 : d1.dot d1 = 0
  . have z1 := sq0 n1
    by_cases n2 : d2.dot d2 = 0
    . have z2 := sq0 n2
      subst z1 z2
      constructor
      . unfold Row3.add r0; exact Row3.ext' (by dsimp only; grind) (by dsimp only; grind) (by dsimp only; grind)
      . unfold Row3.add r0; exact Row3.ext' (by dsimp only; grind) (by dsimp only; grind) (by dsimp only; grind)
    . exfalso
      subst z1
      have ru : r1.dot d2 = 0 := by
        unfold Row3.dot Row3.add r0 at *
        dsimp only at *
        grind
      have ed : ((r1.add r0).cx (r2.add d2)).sub (r1.cx r2) = r1.cx d2 := by
        unfold Row3.cx Row3.add Row3.sub r0
        dsimp only
        congr 1 <;> grind
      rw [ed] at h23
      have z := par0 (cx_anti h23) dot_cxr n2
      have zr := par0 z ru n2
      refine n3 ?_
      rw [zr]
      unfold Row3.cx r0
      dsimp only
      congr 1 <;> grind
  . exfalso
    obtain ⟨c, hc⟩ : ∃ c, c = d2.dot d1 / d1.dot d1 := ⟨_, rfl⟩
    have e0 : d2.sub (Row3.sm c d1) = r0 := by
      refine par0 (u := d1) ?_ ?_ n1
      . unfold Row3.cx Row3.sub Row3.sm r0 at *
        dsimp only at *
        injection h12 with k1 k2 k3
        congr 1 <;> grind
      . have : (d2.sub (Row3.sm c d1)).dot d1 = d2.dot d1 - c * d1.dot d1 := by
          unfold Row3.dot Row3.sub Row3.sm
          dsimp only
          grind
        rw [this, hc]
        grind
    have e2 : d2 = Row3.sm c d1 := by
      unfold Row3.sub Row3.sm r0 at *
      injection e0 with k1 k2 k3
      exact Row3.ext' (by dsimp only; grind) (by dsimp only; grind) (by dsimp only; grind)
    clear hc e0
    subst e2
    have ed : ((r1.add d1).cx (r2.add (Row3.sm c d1))).sub (r1.cx r2) = ((Row3.sm c r1).sub r2).cx d1 := by
      unfold Row3.cx Row3.add Row3.sub Row3.sm
      dsimp only
      congr 1 <;> grind
    rw [ed] at h13
    have z := par0 (cx_anti h13) dot_cxr n1
    have a1 : r1.dot d1 + r1.dot d1 + d1.dot d1 = 0 := by
      unfold Row3.dot Row3.add at *
      dsimp only at *
      grind
    have a2 : r2.dot d1 + c * r1.dot d1 + c * d1.dot d1 = 0 := by
      unfold Row3.dot Row3.add Row3.sm at *
      dsimp only at *
      grind
    have a3 : ((Row3.sm c r1).sub r2).dot d1 = c * r1.dot d1 - r2.dot d1 := by
      unfold Row3.dot Row3.sub Row3.sm
      dsimp only
      grind
    have zr := par0 z (by rw [a3]; grind) n1
    refine n3 ?_
    have er : r2 = Row3.sm c r1 := by
      unfold Row3.sub Row3.sm r0 at *
      injection zr with k1 k2 k3
      exact Row3.ext' (by dsimp only; grind) (by dsimp only; grind) (by dsimp only; grind)
    rw [er]
    unfold Row3.cx Row3.sm r0
    dsimp only
    congr 1 <;> grind
noncomputable def combo (r1 r2 p1 p2 a : Row3) : Row3 := ((Row3.sm (a.dot (r2.cx (r1.cx r2))) p1).add (Row3.sm (a.dot ((r1.cx r2).cx r1)) p2)).add (Row3.sm (a.dot (r1.cx r2)) (p1.cx p2))
theorem combo_self : combo r1 r2 r1 r2 a = Row3.sm ((r1.cx r2).dot (r1.cx r2)) a := by
  unfold combo Row3.cx Row3.add Row3.sm Row3.dot
  dsimp only
  congr 1 <;> grind
theorem tn_combo (n : nq w v ≠ 0) (h1 : Tn w v r1 s1) (h2 : Tn w v r2 s2) : Tn w v (Row3.sm ((r1.cx r2).dot (r1.cx r2)) a) (combo r1 r2 s1 s2 a) := by
  rw [<- combo_self]
  exact ((h1.sm).add h2.sm).add (h1.cx h2 n).sm
theorem tn_one (n : nq w v ≠ 0) (n' : nq w' v' ≠ 0) (n3 : r1.cx r2 ≠ r0) (h1 : Tn w v r1 s1) (h2 : Tn w v r2 s2) (k1 : Tn w' v' r1 s1) (k2 : Tn w' v' r2 s2) (a : Row3) : ∃ t, Tn w v a t /\ Tn w' v' a t := by
  have nd : (r1.cx r2).dot (r1.cx r2) ≠ 0 := fun z => n3 (sq0 z)
  have e : combo r1 r2 s1 s2 a = Row3.sm ((r1.cx r2).dot (r1.cx r2)) (Row3.sm (1 / (r1.cx r2).dot (r1.cx r2)) (combo r1 r2 s1 s2 a)) := by
    generalize (r1.cx r2).dot (r1.cx r2) = D at *
    unfold Row3.sm
    exact Row3.ext' (by dsimp only; grind) (by dsimp only; grind) (by dsimp only; grind)
  refine ⟨Row3.sm (1 / (r1.cx r2).dot (r1.cx r2)) (combo r1 r2 s1 s2 a), Tn.div nd ?_, Tn.div nd ?_⟩
  . rw [<- e]; exact tn_combo n h1 h2
  . rw [<- e]; exact tn_combo n' k1 k2
end
end
end D
section
namespace L2
open PySem PySem.Spec PyProof.Rows
noncomputable abbrev IsTrip (h : Heap) (T : Addr) (a b c : Value) : Prop := h.get? T = some { cls := .type "tuple", data := .seq #[a, b, c] }
theorem typeCall_zip_3 (a b c : Value) : checkTypeCall "zip" ⟨[a, b, c], []⟩ = pure () := by kernel_rfl
theorem newCall_zip_3 (a b c : Value) : checkBuiltinCall "zip.__new__" ⟨[.type "zip", a, b, c], []⟩ = pure () := by kernel_rfl
structure Zip3 (b1 b2 b3 : Bool) (h : Heap) (n l1 l2 l3 : Addr) (xs ys zs : Array Value) (k : Nat) (f : Value) : Prop where
  z : IsZip h (n + 5) (n + 3) (n + 4) f
  a : IsTrip h (n + 3) (.ref n) (.ref (n + 1)) (.ref (n + 2))
  b : ∃ u v w, IsTrip h (n + 4) u v w
  i1 : SI b1 h n l1 k
  i2 : SI b2 h (n + 1) l2 k
  i3 : SI b3 h (n + 2) l3 k
  l1 : SQ b1 h l1 xs
  l2 : SQ b2 h l2 ys
  l3 : SQ b3 h l3 zs
section
variable {prog : Program} {w : World} {A : Around} {E : Value -> Shared -> Prop} {s : Shared} {b1 b2 b3 : Bool}
theorem wpAny_updateSeq_trip {T : Addr} {a b c x : Value} {k : Nat} {Q : Unit -> Shared -> Prop} (hT : IsTrip s.heap T a b c)
    (h : ∀ h', h'.get? T = some { cls := .type "tuple", data := .seq ((#[a, b, c] : Array Value).setIfInBounds k x) } -> Heap.SameBut T s.heap h' -> Q () { s with heap := h' }) :
    wpAny (model prog w) A (updateSeq T (·.setIfInBounds k x)) Q E s := by
  refine wpAny_updateSeq hT rfl (h _ ?_ (Heap.SameBut.update ..))
  rw [Heap.get?_update_self _ hT rfl]
  simp [Obj.mapSeq]
theorem zipNext3 {n l1 l2 l3 : Nat} {k : Nat} {xs ys zs : Array Value} {x y t : Value} {Q : Option Value -> Shared -> Prop} (L1 : l1 < n) (L2 : l2 < n) (L3 : l3 < n) (Z : Zip3 b1 b2 b3 s.heap n l1 l2 l3 xs ys zs k .none) (hx : xs[k]? = some x) (hy : ys[k]? = some y) (ht : zs[k]? = some t)
    (kq : ∀ g, Zip3 b1 b2 b3 g n l1 l2 l3 xs ys zs (k + 1) (rawInt s.heap.objs.size) -> IsTrip g s.heap.objs.size x y t -> (∀ c o, c ≠ n + 5 -> c ≠ n + 4 -> c ≠ n -> c ≠ n + 1 -> c ≠ n + 2 -> s.heap.get? c = some o -> g.get? c = some o) -> Q (some (.ref s.heap.objs.size)) { s with heap := g }) :
    wpAny (model prog w) A (pyNext (.ref (n + 5))) Q E s := by
  obtain ⟨hz, ha, ⟨u, v, r, hb⟩, h1, h2, h3, t1, t2, t3⟩ := Z
  have hT : s.TypeIs (.ref (n + 5)) "zip" := ⟨_, hz, rfl⟩
  unfold pyNext
  refine wpAny_bind (wpAny_attempt (wpAny_callSpecial?_slot (name := Str.ofString "__next__") hT F.slot_zip_next (wpAny_call_entry F.slot_zip_next hT F.entry_zip_next ?_ (F.args_zip_next_1 _))))
  show wpAny _ _ (field (.ref (n + 5)) 2 >>= _) _ _ _; refine wpAny_bind (wpAny_field hz rfl (x := .bool false) rfl ?_); show wpAny _ _ (field (.ref (n + 5)) 3 >>= _) _ _ _
  refine wpAny_bind (wpAny_field hz rfl (x := .ref (n + 3)) rfl ?_); refine wpAny_bind (wpAny_seqItems ha rfl ?_); show wpAny _ _ (Builtin.SmallTypes.ownedTupleIsFree (.ref (n + 5)) >>= _) _ _ _
  refine wpAny_bind ?_; unfold Builtin.SmallTypes.ownedTupleIsFree; refine wpAny_bind (wpAny_field hz rfl (x := .none) rfl (wpAny_pure ?_))
  simp only [if_true]; refine wpAny_bind (wpAny_rule ?_); refine wpAny_bind (wpAny_field hz rfl (x := .ref (n + 4)) rfl ?_)
  refine wpAny_bind (wpAny_setField_rec hz (by simp) fun g₁ e₁ s₁ => ?_)
  replace e₁ : IsZip g₁ (n + 5) (n + 3) (n + 4) .ellipsis := e₁
  refine wpAny_bind ?_; simp only [List.zipIdx_cons, List.zipIdx_nil, List.forIn_cons, List.forIn_nil]
  refine wpAny_bind (wpAny_bind (wpAny_onRaise ?_)); show wpAny _ _ (Builtin.SmallTypes.nextOf (.ref n) >>= _) _ _ _
  refine wpAny_bind (siNext (h1.extBut s₁.extBut (by show @Ne Nat _ _; omega)) (t1.extBut s₁.extBut (by show @Ne Nat _ _; omega)) hx fun g₂ f₂ s₂ => wpAny_pure ?_)
  have b₂ : IsTrip g₂ (n + 4) u v r := s₂.extBut _ _ (by show @Ne Nat _ _; omega) (s₁.extBut _ _ (by show @Ne Nat _ _; omega) hb)
  refine wpAny_bind (wpAny_seqItems b₂ rfl ?_); refine wpAny_bind (wpAny_updateSeq_trip b₂ fun g₃ b₃ s₃ => ?_)
  replace b₃ : IsTrip g₃ (n + 4) x v r := b₃
  refine wpAny_bind (wpAny_letGo (wpAny_pure ?_)); refine wpAny_bind (wpAny_bind (wpAny_onRaise ?_)); show wpAny _ _ (Builtin.SmallTypes.nextOf (.ref (n + 1)) >>= _) _ _ _
  refine wpAny_bind (siNext (((h2.extBut s₁.extBut (by show @Ne Nat _ _; omega)).extBut s₂.extBut (by show @Ne Nat _ _; omega)).extBut s₃.extBut (by show @Ne Nat _ _; omega)) (((t2.extBut s₁.extBut (by show @Ne Nat _ _; omega)).extBut s₂.extBut (by show @Ne Nat _ _; omega)).extBut s₃.extBut (by show @Ne Nat _ _; omega)) hy fun g₄ f₄ s₄ => wpAny_pure ?_)
  have b₄ : IsTrip g₄ (n + 4) x v r := s₄.extBut _ _ (by show @Ne Nat _ _; omega) b₃
  refine wpAny_bind (wpAny_seqItems b₄ rfl ?_); refine wpAny_bind (wpAny_updateSeq_trip b₄ fun g₅ b₅ s₅ => ?_)
  replace b₅ : IsTrip g₅ (n + 4) x y r := b₅
  refine wpAny_bind (wpAny_letGo (wpAny_pure ?_)); refine wpAny_bind (wpAny_bind (wpAny_onRaise ?_)); show wpAny _ _ (Builtin.SmallTypes.nextOf (.ref (n + 2)) >>= _) _ _ _
  refine wpAny_bind (siNext (((((h3.extBut s₁.extBut (by show @Ne Nat _ _; omega)).extBut s₂.extBut (by show @Ne Nat _ _; omega)).extBut s₃.extBut (by show @Ne Nat _ _; omega)).extBut s₄.extBut (by show @Ne Nat _ _; omega)).extBut s₅.extBut (by show @Ne Nat _ _; omega)) (((((t3.extBut s₁.extBut (by show @Ne Nat _ _; omega)).extBut s₂.extBut (by show @Ne Nat _ _; omega)).extBut s₃.extBut (by show @Ne Nat _ _; omega)).extBut s₄.extBut (by show @Ne Nat _ _; omega)).extBut s₅.extBut (by show @Ne Nat _ _; omega)) ht fun g₆ f₆ s₆ => wpAny_pure ?_)
  have b₆ : IsTrip g₆ (n + 4) x y r := s₆.extBut _ _ (by show @Ne Nat _ _; omega) b₅
  refine wpAny_bind (wpAny_seqItems b₆ rfl ?_); refine wpAny_bind (wpAny_updateSeq_trip b₆ fun g₇ b₇ s₇ => ?_)
  replace b₇ : IsTrip g₇ (n + 4) x y t := b₇
  refine wpAny_bind (wpAny_letGo (wpAny_pure (wpAny_pure ?_))); refine wpAny_bind (wpAny_seqItems b₇ rfl ?_); refine wpAny_bind (wpAny_newTuple ?_)
  have sz : g₇.objs.size = s.heap.objs.size := by rw [s₇.1, s₆.1, s₅.1, s₄.1, s₃.1, s₂.1, s₁.1]
  have e₇ : IsZip g₇ (n + 5) (n + 3) (n + 4) .ellipsis := s₇.extBut _ _ (by show @Ne Nat _ _; omega) (s₆.extBut _ _ (by show @Ne Nat _ _; omega) (s₅.extBut _ _ (by show @Ne Nat _ _; omega) (s₄.extBut _ _ (by show @Ne Nat _ _; omega) (s₃.extBut _ _ (by show @Ne Nat _ _; omega) (s₂.extBut _ _ (by show @Ne Nat _ _; omega) e₁)))))
  have k₇ : ∀ c o, c ≠ n + 5 -> c ≠ n + 4 -> c ≠ n -> c ≠ n + 1 -> c ≠ n + 2 -> s.heap.get? c = some o -> g₇.get? c = some o := fun c o c1 c2 c3 c4 c5 e => s₇.extBut _ _ c2 (s₆.extBut _ _ c5 (s₅.extBut _ _ c2 (s₄.extBut _ _ c4 (s₃.extBut _ _ c2 (s₂.extBut _ _ c3 (s₁.extBut _ _ c1 e))))))
  have m₁ : SI b1 g₇ n l1 (k + 1) := ((((f₂.extBut s₃.extBut (by show @Ne Nat _ _; omega)).extBut s₄.extBut (by show @Ne Nat _ _; omega)).extBut s₅.extBut (by show @Ne Nat _ _; omega)).extBut s₆.extBut (by show @Ne Nat _ _; omega)).extBut s₇.extBut (by show @Ne Nat _ _; omega)
  have m₂ : SI b2 g₇ (n + 1) l2 (k + 1) := ((f₄.extBut s₅.extBut (by show @Ne Nat _ _; omega)).extBut s₆.extBut (by show @Ne Nat _ _; omega)).extBut s₇.extBut (by show @Ne Nat _ _; omega)
  have m₃ : SI b3 g₇ (n + 2) l3 (k + 1) := f₆.extBut s₇.extBut (by show @Ne Nat _ _; omega)
  have lz : n + 5 < g₇.objs.size := Heap.lt_size e₇
  show wpAny _ _ (Builtin.SmallTypes.ownedTupleHandOut (.ref (n + 5)) (.ref g₇.objs.size) >>= _) _ _ _; refine wpAny_bind ?_; unfold Builtin.SmallTypes.ownedTupleHandOut
  have e₈ : IsZip (g₇.push { cls := .type "tuple", data := .seq #[x, y, t] }) (n + 5) (n + 3) (n + 4) .ellipsis := Heap.get?_push_of_some _ e₇
  refine wpAny_bind (wpAny_setField_rec e₈ (by simp) fun g₉ e₉ s₉ => ?_)
  replace e₉ : IsZip g₉ (n + 5) (n + 3) (n + 4) (rawInt g₇.objs.size) := e₉
  refine wpAny_setField_rec e₉ (by simp) fun ga ea sa => ?_
  replace ea : IsZip ga (n + 5) (n + 3) (n + 4) (rawInt g₇.objs.size) := ea
  have up : ∀ c o, c ≠ n + 5 -> g₇.get? c = some o -> ga.get? c = some o := fun c o c1 e => sa.extBut _ _ c1 (s₉.extBut _ _ c1 (Heap.get?_push_of_some _ e))
  have pa : IsTrip ga g₇.objs.size x y t := sa.extBut _ _ (Nat.ne_of_gt lz) (s₉.extBut _ _ (Nat.ne_of_gt lz) (Heap.get?_push_size _ rfl))
  rw [sz] at ea pa
  refine wpAny_pure ⟨_, rfl, wpAny_pure ?_⟩
  show Q (some (.ref g₇.objs.size)) _; rw [sz]
  have all : ∀ c o, c ≠ n + 5 -> c ≠ n + 4 -> c ≠ n -> c ≠ n + 1 -> c ≠ n + 2 -> s.heap.get? c = some o -> ga.get? c = some o := fun c o c1 c2 c3 c4 c5 e => up c o c1 (k₇ c o c1 c2 c3 c4 c5 e)
  exact kq ga ⟨ea, all _ _ (by show @Ne Nat _ _; omega) (by show @Ne Nat _ _; omega) (by show @Ne Nat _ _; omega) (by show @Ne Nat _ _; omega) (by show @Ne Nat _ _; omega) ha, ⟨_, _, _, up _ _ (by show @Ne Nat _ _; omega) b₇⟩, m₁.at fun o e => up _ o (by show @Ne Nat _ _; omega) e, m₂.at fun o e => up _ o (by show @Ne Nat _ _; omega) e, m₃.at fun o e => up _ o (by show @Ne Nat _ _; omega) e, t1.at fun o e => all _ o (by show @Ne Nat _ _; omega) (by show @Ne Nat _ _; omega) (by show @Ne Nat _ _; omega) (by show @Ne Nat _ _; omega) (by show @Ne Nat _ _; omega) e, t2.at fun o e => all _ o (by show @Ne Nat _ _; omega) (by show @Ne Nat _ _; omega) (by show @Ne Nat _ _; omega) (by show @Ne Nat _ _; omega) (by show @Ne Nat _ _; omega) e, t3.at fun o e => all _ o (by show @Ne Nat _ _; omega) (by show @Ne Nat _ _; omega) (by show @Ne Nat _ _; omega) (by show @Ne Nat _ _; omega) (by show @Ne Nat _ _; omega) e⟩ pa all
theorem zipEnd3 {n l1 l2 l3 : Nat} {k : Nat} {xs ys zs : Array Value} {Q : Option Value -> Shared -> Prop} (hh : A.handled = none) (L1 : l1 < n) (L2 : l2 < n) (L3 : l3 < n) (Z : Zip3 b1 b2 b3 s.heap n l1 l2 l3 xs ys zs k .none) (hx : xs[k]? = none)
    (kq : ∀ g, (∀ c o, c ≠ n + 5 -> c ≠ n + 4 -> c ≠ n -> c ≠ n + 1 -> c ≠ n + 2 -> s.heap.get? c = some o -> g.get? c = some o) -> Q none { s with heap := g }) : wpAny (model prog w) A (pyNext (.ref (n + 5))) Q E s := by
  obtain ⟨hz, ha, ⟨u, v, r, hb⟩, h1, h2, h3, t1, t2, t3⟩ := Z
  have hT : s.TypeIs (.ref (n + 5)) "zip" := ⟨_, hz, rfl⟩
  unfold pyNext
  refine wpAny_bind (wpAny_attempt (wpAny_callSpecial?_slot (name := Str.ofString "__next__") hT F.slot_zip_next (wpAny_call_entry F.slot_zip_next hT F.entry_zip_next ?_ (F.args_zip_next_1 _))))
  show wpAny _ _ (field (.ref (n + 5)) 2 >>= _) _ _ _; refine wpAny_bind (wpAny_field hz rfl (x := .bool false) rfl ?_); show wpAny _ _ (field (.ref (n + 5)) 3 >>= _) _ _ _
  refine wpAny_bind (wpAny_field hz rfl (x := .ref (n + 3)) rfl ?_); refine wpAny_bind (wpAny_seqItems ha rfl ?_); show wpAny _ _ (Builtin.SmallTypes.ownedTupleIsFree (.ref (n + 5)) >>= _) _ _ _
  refine wpAny_bind ?_; unfold Builtin.SmallTypes.ownedTupleIsFree; refine wpAny_bind (wpAny_field hz rfl (x := .none) rfl (wpAny_pure ?_))
  simp only [if_true]; refine wpAny_bind (wpAny_rule ?_); refine wpAny_bind (wpAny_field hz rfl (x := .ref (n + 4)) rfl ?_)
  refine wpAny_bind (wpAny_setField_rec hz (by simp) fun g₁ e₁ s₁ => ?_)
  replace e₁ : IsZip g₁ (n + 5) (n + 3) (n + 4) .ellipsis := e₁
  refine wpAny_bind ?_; simp only [List.zipIdx_cons, List.zipIdx_nil, List.forIn_cons, List.forIn_nil]
  refine wpAny_bind (wpAny_bind (wpAny_onRaise ?_)); show wpAny _ _ (Builtin.SmallTypes.nextOf (.ref n) >>= _) _ _ _
  refine wpAny_bind (siEnd hh (h1.extBut s₁.extBut (by show @Ne Nat _ _; omega)) (t1.extBut s₁.extBut (by show @Ne Nat _ _; omega)) hx fun g₂ e s₂ he => ?_)
  obtain ⟨oe, he1, he2⟩ := he
  have e₂ : IsZip g₂ (n + 5) (n + 3) (n + 4) .ellipsis := s₂ _ _ (by show @Ne Nat _ _; omega) e₁
  have hez : e ≠ n + 5 := fun x => by subst x; rw [e₂] at he1; cases he1; simp at he2
  refine wpAny_setField_rec e₂ (by simp) fun g₃ _ s₃ => ?_
  refine wpAny_bind (wpAny_isInstance (T := "StopIteration") (b := true) ⟨oe, s₃.extBut _ _ hez he1, he2⟩ isSubtype_stop ?_)
  exact wpAny_pure (kq _ fun c o c1 _ c3 _ _ x => s₃.extBut _ _ c1 (s₂ _ _ c3 (s₁.extBut _ _ c1 x)))
theorem zipNewMeets3 (l1 l2 l3 : Addr) (xs ys zs : Array Value) :
    Meets (Builtin.«zip.__new__» ⟨[.type "zip", .ref l1, .ref l2, .ref l3], []⟩) (fun _ R s => SQ false s.heap l1 xs /\ SQ true s.heap l2 ys /\ SQ true s.heap l3 zs /\ ∀ g, g = (((zg true (zg true (zg false s.heap l1) l2) l3).push { cls := .type "tuple", data := .seq #[.ref s.heap.objs.size, .ref (zg false s.heap l1).objs.size, .ref (zg true (zg false s.heap l1) l2).objs.size] }).push { cls := .type "tuple", data := .seq #[.none, .none, .none] }) ->
      R (.ok (.ret (.ref g.objs.size))) { s with heap := g.push { cls := .type "zip", data := .fields #[.none, .bool false, .bool false, .ref (zg true (zg true (zg false s.heap l1) l2) l3).objs.size, .ref ((zg true (zg true (zg false s.heap l1) l2) l3).push { cls := .type "tuple", data := .seq #[.ref s.heap.objs.size, .ref (zg false s.heap l1).objs.size, .ref (zg true (zg false s.heap l1) l2).objs.size] }).objs.size] } }) :=
  .of_wp fun prog w A R s h => by
    obtain ⟨hp, g, d, tk, os⟩ := s; obtain ⟨q1, q2, q3, h⟩ := h
    have hsub := sub_zip
    have L1 : Heap.IsTuple (Shared.heap ⟨hp, g, d, tk, os⟩) l1 xs := q1
    have L2 : Heap.IsList (Shared.heap ⟨zh hp l1, g, d, tk, os⟩) l2 ys := Heap.IsList.at q2 fun o e => Heap.get?_push_of_some _ e
    have L3 : Heap.IsList (Shared.heap ⟨zl (zh hp l1) l2, g, d, tk, os⟩) l3 zs := Heap.IsList.at q3 fun o e => Heap.get?_push_of_some _ (Heap.get?_push_of_some _ e)
    wp_walk using wpAny_pyIter_tuple L1, wpAny_pyIter_list L2, wpAny_pyIter_list L3
    exact ⟨_, rfl, h _ rfl⟩
theorem callZip3 {l1 l2 l3 : Addr} {xs ys zs : Array Value} {Q : Value -> Shared -> Prop} (h1 : SQ false s.heap l1 xs) (h2 : SQ true s.heap l2 ys) (h3 : SQ true s.heap l3 zs)
    (k : ∀ g, Zip3 false true true g s.heap.objs.size l1 l2 l3 xs ys zs 0 .none -> (∀ c o, s.heap.get? c = some o -> g.get? c = some o) -> Q (.ref (s.heap.objs.size + 5)) { s with heap := g }) :
    wpAny (model prog w) A (call (.type "zip") [.ref l1, .ref l2, .ref l3]) Q E s := by
  refine callType_new F.called_zip (by decide) (typeCall_zip_3 _ _ _) (newCall_zip_3 _ _ _) (fun obj => F.initArgs_range_3 obj _ _ _) F.entry_zip_new (zipNewMeets3 l1 l2 l3 xs ys zs) ⟨h1, h2, h3, fun g hg => ?_⟩
  generalize e1 : zg false s.heap l1 = a1 at *
  generalize e2 : zg true a1 l2 = a2 at *
  generalize e2' : zg true a2 l3 = a2' at *
  generalize e3 : a2'.push { cls := .type "tuple", data := .seq #[.ref s.heap.objs.size, .ref a1.objs.size, .ref a2.objs.size] } = a3 at *
  have n1 : a1.objs.size = s.heap.objs.size + 1 := by rw [<- e1]; exact Heap.size_push ..
  have n2 : a2.objs.size = s.heap.objs.size + 2 := by rw [<- e2, Heap.size_push, n1]
  have n2' : a2'.objs.size = s.heap.objs.size + 3 := by rw [<- e2', Heap.size_push, n2]
  have n3 : a3.objs.size = s.heap.objs.size + 4 := by rw [<- e3, Heap.size_push, n2']
  have n4 : g.objs.size = s.heap.objs.size + 5 := by rw [hg, Heap.size_push, n3]
  have up1 : ∀ c o, s.heap.get? c = some o -> a1.get? c = some o := fun c o x => e1 ▸ Heap.get?_push_of_some _ x
  have up2 : ∀ c o, a1.get? c = some o -> a2.get? c = some o := fun c o x => e2 ▸ Heap.get?_push_of_some _ x
  have up2' : ∀ c o, a2.get? c = some o -> a2'.get? c = some o := fun c o x => e2' ▸ Heap.get?_push_of_some _ x
  have up3 : ∀ c o, a2'.get? c = some o -> a3.get? c = some o := fun c o x => e3 ▸ Heap.get?_push_of_some _ x
  have up4 : ∀ c o, a3.get? c = some o -> g.get? c = some o := fun c o x => hg ▸ Heap.get?_push_of_some _ x
  have x1 : a1.get? s.heap.objs.size = some { cls := .type (if false then "list_iterator" else "tuple_iterator"), data := .fields #[.ref l1, .int 0 0] } := e1 ▸ Heap.get?_push_size _ rfl
  have x2 : a2.get? (s.heap.objs.size + 1) = some { cls := .type (if true then "list_iterator" else "tuple_iterator"), data := .fields #[.ref l2, .int 0 0] } := by rw [<- n1]; exact e2 ▸ Heap.get?_push_size _ rfl
  have x2' : a2'.get? (s.heap.objs.size + 2) = some { cls := .type (if true then "list_iterator" else "tuple_iterator"), data := .fields #[.ref l3, .int 0 0] } := by rw [<- n2]; exact e2' ▸ Heap.get?_push_size _ rfl
  have x3 : a3.get? (s.heap.objs.size + 3) = some { cls := .type "tuple", data := .seq #[.ref s.heap.objs.size, .ref a1.objs.size, .ref a2.objs.size] } := by rw [<- n2']; exact e3 ▸ Heap.get?_push_size _ rfl
  have x4 : g.get? (s.heap.objs.size + 4) = some { cls := .type "tuple", data := .seq #[.none, .none, .none] } := by rw [<- n3]; exact hg ▸ Heap.get?_push_size _ rfl
  have x5 : (g.push { cls := .type "zip", data := .fields #[.none, .bool false, .bool false, .ref a2'.objs.size, .ref a3.objs.size] }).get? (s.heap.objs.size + 5) = some { cls := .type "zip", data := .fields #[.none, .bool false, .bool false, .ref a2'.objs.size, .ref a3.objs.size] } := by rw [<- n4]; exact Heap.get?_push_size _ rfl
  rw [n2', n3] at x5
  rw [n1, n2] at x3
  show _ /\ _
  rw [n4, n2', n3]
  have all : ∀ c o, s.heap.get? c = some o -> (g.push { cls := .type "zip", data := .fields #[.none, .bool false, .bool false, .ref (s.heap.objs.size + 3), .ref (s.heap.objs.size + 4)] }).get? c = some o := fun c o x => Heap.get?_push_of_some _ (up4 _ _ (up3 _ _ (up2' _ _ (up2 _ _ (up1 _ _ x)))))
  refine ⟨⟨_, x5, rfl⟩, k _ ⟨x5, Heap.get?_push_of_some _ (up4 _ _ x3), ⟨_, _, _, Heap.get?_push_of_some _ x4⟩, siNew (Heap.get?_push_of_some _ (up4 _ _ (up3 _ _ (up2' _ _ (up2 _ _ x1))))), siNew (Heap.get?_push_of_some _ (up4 _ _ (up3 _ _ (up2' _ _ x2)))), siNew (Heap.get?_push_of_some _ (up4 _ _ (up3 _ _ x2'))), h1.at fun o e => all _ o e, h2.at fun o e => all _ o e, h3.at fun o e => all _ o e⟩ all⟩
end
noncomputable def Itz3 (b1 b2 b3 : Bool) (K : PySem.W.Frag) (l1 l2 l3 : Addr) : It :=
  ⟨fun i H => ∃ xs ys zs x y t, SX b1 K H l1 xs /\ SX b2 K H l2 ys /\ SX b3 K H l3 zs /\ xs[i]? = some x /\ ys[i]? = some y /\ zs[i]? = some t,
   fun i H v H' => ∃ p, H p = none /\ v = .ref p /\ ∀ xs ys zs x y t, SX b1 K H l1 xs -> SX b2 K H l2 ys -> SX b3 K H l3 zs -> xs[i]? = some x -> ys[i]? = some y -> zs[i]? = some t -> H' = upd H p (.tup [x, y, t]),
   fun i H => ∃ xs, SX b1 K H l1 xs /\ xs.length <= i /\ ∃ ys, SX b2 K H l2 ys /\ ∃ zs, SX b3 K H l3 zs⟩
noncomputable def znt3 (b1 b2 b3 : Bool) (n l1 l2 l3 : Addr) (i : Nat) (h : Heap) : Prop := IsZip h (n + 5) (n + 3) (n + 4) .none /\ IsTrip h (n + 3) (.ref n) (.ref (n + 1)) (.ref (n + 2)) /\ (∃ u v w, IsTrip h (n + 4) u v w) /\ SI b1 h n l1 i /\ SI b2 h (n + 1) l2 i /\ SI b3 h (n + 2) l3 i
theorem turn_zip3 {b1 b2 b3 : Bool} {P : Program} {w : World} {K : PySem.W.Frag} {elts : List Expr} {x1} {pos : Pos} {n l1 l2 l3 : Nat} (L1 : l1 < n) (L2 : l2 < n) (L3 : l3 < n) : Turn P w K (.Tuple elts x1 pos) (Itz3 b1 b2 b3 K l1 l2 l3) [n + 5, n + 3, n + 4, n, n + 1, n + 2] (n + 5) (znt3 b1 b2 b3 n l1 l2 l3) where
  mem := by simp
  obj := fun i h st c hc => by
    obtain ⟨h1, h2, ⟨u, v, r, h3⟩, h4, h5, h6⟩ := st
    obtain ⟨o4, h4, _, d4⟩ := h4.ob
    obtain ⟨o5, h5, _, d5⟩ := h5.ob
    obtain ⟨o6, h6, _, d6⟩ := h6.ob
    simp only [List.mem_cons, List.mem_nil_iff, or_false] at hc
    rcases hc with rfl | rfl | rfl | rfl | rfl | rfl
    . exact ⟨_, h1, fun v z => by cases z⟩
    . exact ⟨_, h2, fun v z => by cases z⟩
    . exact ⟨_, h3, fun v z => by cases z⟩
    . exact ⟨_, h4, fun v z => by rw [d4] at z; cases z⟩
    . exact ⟨_, h5, fun v z => by rw [d5] at z; cases z⟩
    . exact ⟨_, h6, fun v z => by rw [d6] at z; cases z⟩
  keep := fun i h h' st k => by
    obtain ⟨h1, h2, ⟨u, v, r, h3⟩, h4, h5, h6⟩ := st
    exact ⟨k _ (by simp) _ h1, k _ (by simp) _ h2, ⟨u, v, r, k _ (by simp) _ h3⟩, h4.at fun o e => k _ (by simp) o e, h5.at fun o e => k _ (by simp) o e, h6.at fun o e => k _ (by simp) o e⟩
  item := by
    intro X hP hw hK hc i pins s σ H E I hf st hg
    subst hP hw hK
    obtain ⟨xs, ys, zs, x, y, t, q1, q2, q3, hx, hy, ht⟩ := hg
    obtain ⟨its, rv, p, hz⟩ := I.sx q1
    obtain ⟨its', rv', p', hz'⟩ := I.sx q2
    obtain ⟨its'', rv'', p'', hz''⟩ := I.sx q3
    obtain ⟨u, hu, ru⟩ := rv.get hx
    obtain ⟨u', hu', ru'⟩ := rv'.get hy
    obtain ⟨u'', hu'', ru''⟩ := rv''.get ht
    obtain ⟨h1, h2, h3, h4, h5, h6⟩ := id st
    refine zipNext3 L1 L2 L3 ⟨h1, h2, h3, h4, h5, h6, p, p', p''⟩ (x := u) (y := u') (t := u'') (by simpa using hu) (by simpa using hu') (by simpa using hu'') fun g Z pr all => ⟨_, rfl, ?_⟩
    refine wpAny_letOwnedTupleGo_zip (s := { s with heap := g }) Z.z fun g2 e2 s2 => ?_
    have hn : H s.heap.objs.size = none := I.hok.fresh (Nat.le_refl _)
    have lt : ∀ c ∈ [n + 5, n + 3, n + 4, n, n + 1, n + 2], c < s.heap.objs.size := fun c hc => by
      obtain ⟨w1, w2, ⟨_, _, _, w3⟩, w4, w5, w6⟩ := st
      obtain ⟨_, w4, _⟩ := w4.ob
      obtain ⟨_, w5, _⟩ := w5.ob
      obtain ⟨_, w6, _⟩ := w6.ob
      simp only [List.mem_cons, List.mem_nil_iff, or_false] at hc
      rcases hc with rfl | rfl | rfl | rfl | rfl | rfl
      . exact Heap.lt_size w1
      . exact Heap.lt_size w2
      . exact Heap.lt_size w3
      . exact Heap.lt_size w4
      . exact Heap.lt_size w5
      . exact Heap.lt_size w6
    have kp : ∀ c o, c ∉ [n + 5, n + 3, n + 4, n, n + 1, n + 2] -> s.heap.get? c = some o -> g2.get? c = some o := fun c o hc e => by
      simp only [List.mem_cons, List.mem_nil_iff, or_false, not_or] at hc
      exact s2.extBut _ _ hc.1 (all c o hc.1 hc.2.2.1 hc.2.2.2.1 hc.2.2.2.2.1 hc.2.2.2.2.2 e)
    have trk : ∀ c u, H c = some u -> c ∉ [n + 5, n + 3, n + 4, n, n + 1, n + 2] := fun c u e hc => by rw [(hf c hc).1] at e; cases e
    have pr2 : g2.get? s.heap.objs.size = some { cls := .type "tuple", data := .seq #[u, u', u''] } := s2.extBut _ _ (Nat.ne_of_gt (lt (n + 5) (by simp))) pr
    have I2 : Inv X pins σ (upd H s.heap.objs.size (.tup [x, y, t])) { s with heap := g2 } := by
      refine I.step (g' := s.gens) (d' := s.drawn) (t' := s.toks) (ch := [n + 5, n + 3, n + 4, n, n + 1, n + 2]) (fun c hc => ?_) (fun c o _ _ hc e _ => kp c o hc e) (fun c o _ _ hc e _ => ⟨o.slots, kp c o hc e⟩) (fun c o _ e n => ?_)
        (fun c o hc e => ⟨o, kp c o hc e⟩) (fun c vs e => ?_) (fun c o vs e => ?_) (fun c ps e => ⟨#[], ?_⟩) (fun m hm => ?_) (fun c v e => ?_) I.bare
      . obtain ⟨f0, f1, f2, f3, f4, f5⟩ := hf c hc
        exact ⟨f3, f1, f4, f5⟩
      . rw [upd_ne (Nat.ne_of_lt (Heap.lt_size e))]; exact n
      . rw [upd_ne (ne_of_none e hn)]; exact e
      . rw [upd_ne (ne_of_none e hn)]; exact e
      . rw [upd_ne (ne_of_none e hn), e]; simp
      . obtain ⟨o, es, ep, ho, r⟩ := hm
        exact ⟨o, es, ep, kp _ o (fun hc => (hf _ hc).2.1 rfl) ho, r⟩
      . by_cases hb : c = s.heap.objs.size
        . subst hb
          rw [upd_same] at e; cases e
          exact ⟨by show 3 <= sizeLine; decide, [u, u', u''], .cons ru (.cons ru' (.cons ru'' .nil)), ⟨_, pr2, rfl, _, rfl⟩⟩
        . rw [upd_ne hb] at e
          refine (I.hok c v e).stay (fun d o hd q => kp d o ?_ q) (fun d q => by rw [upd_ne (ne_of_none q hn)]; exact q) fun d ts q => by rw [upd_ne (ne_of_none q hn)]; exact q
          rcases hd with rfl | hd
          . exact trk _ _ e
          . exact trk _ _ hd
    refine ⟨.ref s.heap.objs.size, _, I2, rfl, ⟨_, hn, rfl, fun xs' ys' zs' x' y' t' a1 a2 a3 a4 a5 a6 => ?_⟩, ⟨e2, s2.extBut _ _ (by show @Ne Nat _ _; omega) Z.a, ?_, Z.i1.extBut s2.extBut (by show @Ne Nat _ _; omega), Z.i2.extBut s2.extBut (by show @Ne Nat _ _; omega), Z.i3.extBut s2.extBut (by show @Ne Nat _ _; omega)⟩, fun c hc => ?_⟩
    . rw [I.sx_inj a1 q1, hx] at a4
      rw [I.sx_inj a2 q2, hy] at a5
      rw [I.sx_inj a3 q3, ht] at a6
      cases a4; cases a5; cases a6; rfl
    . obtain ⟨v1, v2, v3, e3⟩ := Z.b
      exact ⟨v1, v2, v3, s2.extBut _ _ (by show @Ne Nat _ _; omega) e3⟩
    . rw [upd_ne (Nat.ne_of_lt (lt c hc))]; exact (hf c hc).1
  done := by
    intro X hP hw hK hc i pins s σ H E I hf st hg
    subst hP hw hK
    obtain ⟨xs, q1, hx, ys, q2, zs, q3⟩ := hg
    obtain ⟨its, rv, p, hz⟩ := I.sx q1
    obtain ⟨its', rv', p', hz'⟩ := I.sx q2
    obtain ⟨its'', rv'', p'', hz''⟩ := I.sx q3
    obtain ⟨h1, h2, h3, h4, h5, h6⟩ := id st
    have hl := rv.length
    refine zipEnd3 (I.ok.hd hc) L1 L2 L3 ⟨h1, h2, h3, h4, h5, h6, p, p', p''⟩ (by simp; omega) fun g all => ⟨rfl, ?_⟩
    have kp : ∀ c o, c ∉ [n + 5, n + 3, n + 4, n, n + 1, n + 2] -> s.heap.get? c = some o -> g.get? c = some o := fun c o hc e => by
      simp only [List.mem_cons, List.mem_nil_iff, or_false, not_or] at hc
      exact all c o hc.1 hc.2.2.1 hc.2.2.2.1 hc.2.2.2.2.1 hc.2.2.2.2.2 e
    have trk : ∀ c u, H c = some u -> c ∉ [n + 5, n + 3, n + 4, n, n + 1, n + 2] := fun c u e hc => by rw [(hf c hc).1] at e; cases e
    refine I.step (g' := s.gens) (d' := s.drawn) (t' := s.toks) (ch := [n + 5, n + 3, n + 4, n, n + 1, n + 2]) (fun c hc => ?_) (fun c o _ _ hc e _ => kp c o hc e) (fun c o _ _ hc e _ => ⟨o.slots, kp c o hc e⟩) (fun c o _ e n => n)
        (fun c o hc e => ⟨o, kp c o hc e⟩) (fun c vs e => e) (fun c o vs e => e) (fun c ps e => ⟨#[], by rw [e]; simp⟩) (fun m hm => ?_) (fun c v e => ?_) I.bare
    . obtain ⟨f0, f1, f2, f3, f4, f5⟩ := hf c hc
      exact ⟨f3, f1, f4, f5⟩
    . obtain ⟨o, es, ep, ho, r⟩ := hm
      exact ⟨o, es, ep, kp _ o (fun hc => (hf _ hc).2.1 rfl) ho, r⟩
    . refine (I.hok c v e).stay (fun d o hd q => kp d o ?_ q) (fun d q => q) fun d ts q => q
      rcases hd with rfl | hd
      . exact trk _ _ e
      . exact trk _ _ hd
  self := fun _ _ _ _ _ st h => wpAny_pyIter_zip st.1 h
section
variable {X : Cx}
noncomputable def iZip3 (K : PySem.W.Frag) (ta : TA) : TI := fun σ H R => ta σ H fun vs H1 => ∃ l1 l2 l3, vs = [.ref l1, .ref l2, .ref l3] /\ (∃ xs, SX false K H1 l1 xs) /\ (∃ ys, SX true K H1 l2 ys) /\ (∃ zs, SX true K H1 l3 zs) /\ R (Itz3 false true true K l1 l2 l3) H1
theorem zi_zip3 {a b c : Expr} {ta : TA} {p pos pt : Pos} {elts : List Expr} {x1} (hg : Gl X "zip") (hm : X.mg "zip" = none) (ha : ZA X [a, b, c] ta) (hs : starEach [a, b, c] X.env = [(false, eval a X.env), (false, eval b X.env), (false, eval c X.env)] := by rfl) (hs2 : starEach [b, c] X.env = [(false, eval b X.env), (false, eval c X.env)] := by rfl) :
    ZI X (.Tuple elts x1 pt) (.Call (.Name "zip" p) [a, b, c] [] pos) (iZip3 X.K ta) := ⟨by
  intro pins s σ H R I h
  refine Call_ (ld_blt I hg hm boot_zip (PyProof.Rows.callWith_type1 (thn (ha.out pos pins s σ H _ I h) fun us s1 ⟨vs, H1, I1, r1, q1⟩ => ?_) (by rw [hs, hs2]) (by rw [hs2]; rfl)))
  obtain ⟨l1, l2, l3, e, ⟨xs, q1⟩, ⟨ys, q2⟩, ⟨zs, q3⟩, q⟩ := q1
  subst e
  cases r1 with
  | cons r rr =>
    cases rr with
    | cons r' rr =>
      cases rr with
      | cons r'' rr =>
        cases rr
        cases (show _ = Value.ref l1 from r)
        cases (show _ = Value.ref l2 from r')
        cases (show _ = Value.ref l3 from r'')
        obtain ⟨its, rv, p1, _⟩ := I1.sx q1
        obtain ⟨its', rv', p2, _⟩ := I1.sx q2
        obtain ⟨its'', rv'', p3, _⟩ := I1.sx q3
        have a1 : l1 < s1.heap.objs.size := p1.lt
        have a2 : l2 < s1.heap.objs.size := p2.lt
        have a3 : l3 < s1.heap.objs.size := p3.lt
        refine callZip3 p1 p2 p3 fun g Z all => ?_
        refine wpAny_pyIter_zip (s := { s1 with heap := g }) Z.z ?_
        refine ⟨_, _, _, _, H1, rfl, I1.kept (t' := s1.toks) all, turn_zip3 a1 a2 a3, ⟨Z.z, Z.a, Z.b, Z.i1, Z.i2, Z.i3⟩, fun b hb => ?_, q⟩
        have ge : s1.heap.objs.size <= b := by
          simp only [List.mem_cons, List.mem_nil_iff, or_false] at hb
          rcases hb with rfl | rfl | rfl | rfl | rfl | rfl
          . exact Nat.le_add_right _ 5
          . exact Nat.le_add_right _ 3
          . exact Nat.le_add_right _ 4
          . exact Nat.le_refl _
          . exact Nat.le_add_right _ 1
          . exact Nat.le_add_right _ 2
        exact I1.fpOk ge (I1.hok.fresh ge)⟩
end
end L2
end
section
namespace L2
open PySem PySem.Spec PyProof.Rows
theorem list_extend_tupO (l : Addr) (items : Array Value) (n : Nat) (b : Addr) (dict : Option Addr) (slots : Array (Option Value)) (items2 : Array Value) (n2 : Nat) (hs0 : ¬(!items.isEmpty && Builtin.List.listTooLong (items.size + items2.size)) = true) (hs1 : items.size <= sizeLine) (hs2 : items.size + items2.size <= sizeLine + 1) :
    Meets (Builtin.«list.extend» ⟨[.ref l, .ref b], []⟩) (fun _ R s => s.heap.get? l = some { cls := .type "list", dict := none, data := .seq items n, slots := #[] } /\ s.heap.get? b = some { cls := .type "tuple", dict := dict, data := .seq items2 n2, slots := slots } /\ R (.ok (.ret Value.none)) { s with heap := s.heap.update l (Obj.mapSeq fun x => x ++ items2), toks := s.toks }) :=
  .of_wp fun prog w A R s h => by
    obtain ⟨hp, g, d, tk, os⟩ := s; obtain ⟨hl, hb, h⟩ := h; have f1 := AutoSeq1.idx_int; have f2 := AutoSeq1.sub_tuple_tuple; have f3 := AutoSeq1.sub_list_list; have f4 := AutoSeq1.sub_tuple_list; have f5 := AutoSeq1.sub_list_tuple;
    have hz' : (items ++ items2).size <= sizeLine + 1 := by rw [Array.size_append]; exact hs2
    wp_walk using (wpAny_updateSeq hl rfl (hz := hs1) (_hz' := hz')), wpAny_loadPart' hl, wpAny_loadPart' hb; exact ⟨_, rfl, h⟩
section
variable {X : Cx}
noncomputable def rExtendT (K : PySem.W.Frag) : V -> List V -> Hp -> VK -> Prop := fun x vs H Q => ∃ l b xs zs, x = .ref l /\ vs = [.ref b] /\ H l = some (.lst xs) /\ SqT K H b zs /\ xs.length + zs.length <= sizeLine /\ Q .non (upd H l (.lst (xs ++ zs)))
theorem mt_extendT : MtM X "list.extend" (rExtendT X.K) := by
  intro pins s σ H x vs v us Q I rx rv h
  obtain ⟨l, b, xs, zs, rfl, rfl, hH, hB, hz, q⟩ := h
  cases rx
  obtain ⟨u, rfl, ru⟩ := rv.one
  cases ru
  obtain ⟨z, its, n, r, hl, e⟩ := I.lstM hH
  obtain ⟨its2, r2, e2, hz2⟩ := I.tuple hB
  have hl2 := r2.length
  obtain ⟨o2, g1, g2, n2, g3⟩ := e2
  have hsz : its.toArray.size + its2.toArray.size <= sizeLine := by rw [List.size_toArray, List.size_toArray]; omega
  have hlong : ¬ (!its.toArray.isEmpty && Builtin.List.listTooLong (its.toArray.size + its2.toArray.size)) = true := by
    rw [notLongL hsz, Bool.and_false]
    exact Bool.false_ne_true
  obtain ⟨oc, od, da, sl⟩ := o2
  dsimp only at g2 g3
  subst g2 g3
  refine call_meets F.slot_list_extend ⟨_, e, rfl⟩ F.entry_list_extend (F.args_list_extend_2 _ _)
    (list_extend_tupO l its.toArray n b od sl its2.toArray n2 hlong (by rw [List.size_toArray]; omega) (by omega)) ⟨e, g1, ?_⟩
  refine ⟨.non, _, I.lset (its' := its ++ its2) hH e (by simp) (r.append r2) ?_, rfl, q⟩
  rw [List.length_append]
  omega
theorem ze_extendT {o e : Expr} {to te : TE} {apos cpos : Pos} (ho : ZE X o to) (ha : ZE X e te) (hbase : attributeBase o "extend" X.env (eval o X.env) = eval o X.env := by rfl)
    (hfew : ((backTo cpos (starEach [e] X.env)).all (fun x => !x.1) && (backToKw cpos (keywordEach [] X.env)).all (fun x => x.1.isSome)
      && decide ([e].length + ([] : List Keyword).length + (if ([] : List Keyword).isEmpty then 0 else 1) < 30)) = true := by rfl)
    (hline : (apos.endLine == cpos.line) = true := by rfl) (hs : starEach [e] X.env = (false, eval e X.env) :: starEach [] X.env := by rfl) :
    ZE X (.Call (.Attribute o "extend" apos) [e] [] cpos) (tBM X.K "list" (rExtendT X.K) to (tCons te tNil)) :=
  ⟨pe_bm PySem.F.plainAttrs_list F.slot_list_extend (by rfl) mt_extendT ho.out (pa_cons ha.out pa_nil hs) hbase hfew hline hs⟩
noncomputable def Itr3 (lo c : Int) (n : Nat) : It := ⟨fun i _ => i < n, fun i H x H' => H' = H /\ x = .int (lo + i * c), fun i _ => n <= i⟩
theorem turn_range3 {P : Program} {w : World} {K : PySem.W.Frag} {tg : Expr} (it : Addr) (lo c : Int) (n : Nat) : Turn P w K tg (Itr3 lo c n) [it] it (fun i h => IsRangeIter h it (lo + (i : Nat) * c) ((n : Int) - (i : Nat)) c) where
  mem := by simp
  obj := fun i h st b hb => by
    have e : b = it := by simpa using hb
    subst e
    exact ⟨_, st, fun v z => by
      have z' : Data.fields _ = Data.cell v := z
      cases z'⟩
  keep := fun i h h' st k => k it (by simp) _ st
  item := by
    intro X hP hw hK hc i pins s σ H E I hf st hg
    subst hP hw hK
    obtain ⟨f0, f1, f2, f3, f4, f5⟩ := hf it (by simp)
    have W := Walks.range (prog := X.prog) (w := X.w) (I.ok.hd hc) it lo c n
    refine W.item i s _ _ hg st fun v h' tk hv st' kk => ?_
    obtain ⟨t, rfl⟩ := hv
    have I1 : Inv X pins σ H { s with heap := h', toks := tk } := I.turned (fun b o hb e => kk b o (by simpa using hb) e) f0 f1 f3 f4 f5
    exact ⟨_, rfl, go_of (s := { s with heap := h', toks := tk }) (n := "range_iterator") st' rfl rfl (by decide) ⟨.int (lo + i * c), H, I1, ⟨t, rfl⟩, ⟨rfl, rfl⟩, st', fun b hb => (hf b hb).1⟩⟩
  done := by
    intro X hP hw hK hc i pins s σ H E I hf st hg
    subst hP hw hK
    obtain ⟨f0, f1, f2, f3, f4, f5⟩ := hf it (by simp)
    exact wpAny_pyNext_range_end (I.ok.hd hc) st (by have : n <= i := hg; omega) fun h' eb => ⟨rfl, I.turned (t' := s.toks) (fun b o hb e => eb b o hb e) f0 f1 f3 f4 f5⟩
  self := fun _ _ _ _ _ st h => wpAny_pyIter_rangeiter st h
noncomputable def iRng093 (ta : TA) : TI := fun σ H R => ta σ H fun vs H1 => vs = [.int 0, .int 9, .int 3] /\ R (Itr3 0 3 3) H1
theorem zi_range093 {tg a b c : Expr} {ta : TA} {p pos : Pos} (hg : Gl X "range") (hm : X.mg "range" = none) (ha : ZA X [a, b, c] ta) (hs : starEach [a, b, c] X.env = [(false, eval a X.env), (false, eval b X.env), (false, eval c X.env)] := by rfl) (hs2 : starEach [b, c] X.env = [(false, eval b X.env), (false, eval c X.env)] := by rfl) :
    ZI X tg (.Call (.Name "range" p) [a, b, c] [] pos) (iRng093 ta) := ⟨by
  intro pins s σ H R I h
  refine Call_ (ld_blt I hg hm boot_range (PyProof.Rows.callWith_type1 (thn (ha.out pos pins s σ H _ I h) fun us s1 ⟨vs, H1, I1, r1, q1⟩ => ?_) (by rw [hs, hs2]) (by rw [hs2]; rfl)))
  obtain ⟨e, q⟩ := q1
  subst e
  cases r1 with
  | cons r rr =>
    cases rr with
    | cons r' rr =>
      cases rr with
      | cons r'' rr =>
        cases rr
        obtain ⟨t, rfl⟩ := r
        obtain ⟨t', rfl⟩ := r'
        obtain ⟨t'', rfl⟩ := r''
        refine call_range_3 (by decide) ?_
        refine wpAny_pyIter_range (IsRange.new ..) (by decide) ?_
        have I2 : Inv X pins σ H1 { s1 with heap := s1.heap.push { cls := .type "range", data := .fields #[.int 0 t, .int 9 t', .int 3 t''] }, toks := s1.toks } := I1.kept fun b o e => Heap.get?_push_of_some _ e
        refine ⟨(s1.heap.push { cls := .type "range", data := .fields #[.int 0 t, .int 9 t', .int 3 t''] }).objs.size, [(s1.heap.push { cls := .type "range", data := .fields #[.int 0 t, .int 9 t', .int 3 t''] }).objs.size], _, _, H1, rfl,
          I2.kept (t' := s1.toks) fun b o e => Heap.get?_push_of_some _ e, turn_range3 _ 0 3 3, ?_, fun b hb => ?_, q⟩
        . exact Heap.get?_push_size _ rfl
        . have e : b = (s1.heap.push { cls := .type "range", data := .fields #[.int 0 t, .int 9 t', .int 3 t''] }).objs.size := by simpa using hb
          subst e
          exact I2.fpOk (Nat.le_refl _) (I2.hok.fresh (Nat.le_refl _))⟩
end
end L2
end
section
namespace L2
open PySem PySem.Spec PyProof.Rows
theorem TupT.two {K : PySem.W.Frag} {d : Addr} {o : Obj} {p q : Int} {t1 t2 : _} {n : Nat} (l : K.lookup d = some o) (c : o.cls = .type "tuple") (e : o.data = .seq #[.int p t1, .int q t2] n) : TupT K d [p, q] :=
  ⟨o, _, n, l, c, e, (show 2 <= sizeLine by decide), .cons ⟨_, rfl⟩ (.cons ⟨_, rfl⟩ .nil)⟩
end L2
namespace D
open PySem L2 K0 Num
open PySem.W (Dat)
noncomputable def pairs3 : List (List Int) := [[0, 1], [0, 2], [1, 2]]
noncomputable def spX (K : PySem.W.Frag) (R : List Dat -> (Dat -> Prop) -> Prop) : Sp := fun vs H Q _ => ∃ ds C, Dzs (fun _ => True) K H vs ds /\ R ds C /\ ∀ v H' d, C d -> Same H H' -> Dz (fun _ => True) K H' v d -> Q v H'
section
variable {p : Option Addr} {K : PySem.W.Frag} {W : Addr -> Prop} {L : List Addr} {σ : St} {H H0 H1 H2 : Hp} {τ τ' : List Sl} {ta tb te : TE} {tas : TA} {v : V} {s : Sl} {nx : List Sl -> Prop} {rt : Sl -> Prop} {t u : TS} {ds : List Dat} {E' : XK}
theorem S.letX {R : List Dat -> (Dat -> Prop) -> Prop} {C : Dat -> Prop} {ss : List Sl} {i : Nat} (hf : flatDs τ = true) (ha : A1 none K tas τ ss) (hr : R ds C) (m : ∀ d, C d -> S none K u (τ.set i (.dat d)) nx rt) (hd : datsOf ss = some ds := by rfl) : S none K (tSeq (tAsg (tCall (spX K R) [] E' tas) (gName i)) u) τ nx rt := fun W L σ H D r o q1 q2 => by
  have r' : Rs none (fun _ => False) K H [] σ τ := r.reset (fun a z => z.elim) hf
  have o' : Ok none (fun _ => False) H := ⟨fun a ha => (by cases ha), fun a ha => ha.elim⟩
  refine ha _ [] σ H _ r' o' fun vs H1 ss' es e1 o1 rv => ?_
  subst es
  show spX K R (vs ++ []) H1 _ E'
  rw [List.append_nil]
  refine ⟨ds, C, rv.dz hd, hr, fun v H' d c sm z => ?_⟩
  have e2 : Ev (Pp none) H H' := e1.trans (Ev.of sm)
  have same : ∀ b o, H b = some o -> H' b = some o := fun b o h => e2.keep b o (fun z => by cases z) h
  have r2 : Rs none (fun _ => False) K H' [] σ τ := r'.ev e2 fun q hq => by cases hq
  obtain ⟨L', l, r3⟩ := r2.set (v := v) (s := .dat d) (.inr (.inl ⟨d, rfl, z.mono fun _ _ h => h⟩)) i
  have al : ∀ a, W a -> ∃ ys, H' a = some (.lst ys) := fun a ha => by obtain ⟨ys, h⟩ := o.al a ha; exact ⟨ys, same _ _ h⟩
  have hn : ∀ a, H' a = none -> H a = none := fun a ha => by
    cases h : H a with
    | none => rfl
    | some x => rw [same _ _ h] at ha; cases ha
  refine m d c (fun _ => False) L' _ H' D r3 ⟨fun a ha => (by cases ha), fun a ha => ha.elim⟩ (fun W2 L2 σ2 H2 τ2 c2 ev o2 al2 n2 l2 rs2 => ?_) (fun W2 H2 v2 s2 c2 ev o2 al2 n2 rv2 => ?_)
  . exact q1 W2 L2 σ2 H2 τ2 c2 ((Ev.mono e2 fun a z => by cases z).trans (ev.mono fun a z => z.elim)) o2 (fun a ha => by obtain ⟨ys, h⟩ := al a ha; exact ⟨ys, ev.keep _ _ (fun z => z) h⟩) (fun a ha => (n2 a ha).elim (fun z => z.elim) fun z => .inr (hn a z)) (fun a ha => (l2 a ha).elim (fun z => by have := l a z; cases this) fun z => .inr (hn a z)) rs2
  . exact q2 W2 H2 v2 s2 c2 ((Ev.mono e2 fun a z => by cases z).trans (ev.mono fun a z => z.elim)) o2 (fun a ha => by obtain ⟨ys, h⟩ := al a ha; exact ⟨ys, ev.keep _ _ (fun z => z) h⟩) (fun a ha => (n2 a ha).elim (fun z => z.elim) fun z => .inr (hn a z)) (rv2.base hn fun a ha => by have := l a ha; cases this)
theorem S.extendT {i : Nat} {ds es : List Dat} {τ' : List Sl} (h : τ[i]? = some (.own ds)) (he : E1 p K te τ (.dat (.tuple es))) (hz : ds.length + es.length <= sizeLine) (m : nx τ') (e : τ.set i (.own (ds ++ es)) = τ' := by rfl) : S p K (tDrop (tBM K "list" (rExtendT K) (tVar i) (tCons te tNil))) τ nx rt := fun W L σ H D r o q1 q2 => by
  subst e
  obtain ⟨a, vs, e, w, n, l, h1, z⟩ := r.get_own h
  refine ⟨_, e, .inl ⟨rfl, _, SqL.of h1⟩, he W L σ H _ r o fun v H1 s c e1 o1 rv => ?_⟩
  subst c
  have r1 := r.ev e1 o.pw
  obtain ⟨a', vs', e', w', n', l', h1', z'⟩ := r1.get_own h
  rw [e] at e'; cases e'
  cases rv with
  | tup g1 g2 =>
    rename_i b zs
    have ev : Ev (fun b => b = a) H1 (upd H1 a (.lst (vs' ++ zs))) := ⟨fun b o n h => by rw [upd_ne n]; exact h, Tm.lst h1' _⟩
    have nw : ∀ b, ¬ W b -> ¬ b = a := fun b n z => n (z ▸ w)
    refine ⟨a, b, vs', zs, rfl, rfl, h1', g1, by rw [z'.len, g2.len]; exact hz, ?_⟩
    have alw : ∀ b, W b -> ∃ ys, upd H1 a (.lst (vs' ++ zs)) b = some (.lst ys) := fun b hb => by
      by_cases z : b = a
      . subst z; exact ⟨_, upd_same⟩
      . rw [upd_ne z]; exact o1.al b hb
    refine q1 W L σ _ _ m ((e1.ofP o).trans (ev.mono fun b hb => hb ▸ w)) ⟨fun q hq => ⟨?_, o1.pw q hq⟩, alw⟩ alw (fun _ h => .inl h) (fun _ h => .inl h) (Rs.chgO w h1' ((z'.app g2).ev ev nw) r1 h e)
    obtain ⟨x, y, u⟩ := (o1.pu q hq).1
    exact ⟨x, y, by rw [upd_ne (fun z => n' (by rw [<- z]; exact hq))]; exact u⟩
theorem Wk.rng093 (h : A1 p K tas τ [.dat (.int 0), .dat (.int 9), .dat (.int 3)]) : Wk p K (iRng093 tas) τ [.int 0, .int 3, .int 6] := fun W L σ H R r o q => h W L σ H _ r o fun vs H1 ss e e1 o1 rv => by
  subst e
  have ev : vs = [.int 0, .int 9, .int 3] := by
    cases rv with
    | cons a t => cases t with
      | cons b t => cases t with
        | cons c t => cases t; cases a.int_inv; cases b.int_inv; cases c.int_inv; rfl
  refine ⟨ev, q _ H1 e1 o1 fun W' H' ev n => ⟨Nat.le_refl _, fun i d hd => ?_⟩⟩
  have hi : i < 3 := (List.getElem?_eq_some_iff.mp hd).1
  refine ⟨hi, fun y H2 ⟨h2, hy⟩ => ?_⟩
  subst h2 hy
  refine ⟨Same.refl _, ?_⟩
  match i, hi, hd with
  | 0, _, hd => cases hd; exact .int _
  | 1, _, hd => cases hd; exact .int _
  | 2, _, hd => cases hd; exact .int _
theorem Wk.zip3 {x1 x2 x3 y1 y2 y3 z1 z2 z3 : Dat} (h : A1 p K tas τ [.dat (.tuple [x1, x2, x3]), .dat (.list [y1, y2, y3]), .dat (.list [z1, z2, z3])]) : Wk p K (iZip3 K tas) τ [.tuple [x1, y1, z1], .tuple [x2, y2, z2], .tuple [x3, y3, z3]] := fun W L σ H R r o q => h W L σ H _ r o fun vs H1 ss e e1 o1 rv => by
  subst e
  cases rv with
  | cons a t =>
    cases t with
    | cons b t =>
      cases t with
      | cons c t =>
        cases t
        obtain ⟨a1, w1, rfl, h1, h2, k1⟩ := dz_sx (b := false) (ds := [x1, x2, x3]) a
        obtain ⟨a2, w2, rfl, h3, h4, k2⟩ := dz_sx (b := true) (ds := [y1, y2, y3]) b
        obtain ⟨a3, w3, rfl, h5, h6, k3⟩ := dz_sx (b := true) (ds := [z1, z2, z3]) c
        refine ⟨a1, a2, a3, rfl, ⟨_, h1⟩, ⟨_, h3⟩, ⟨_, h5⟩, q _ H1 e1 o1 fun W' H' ev n => ?_⟩
        have g1 := k1 H' ev
        have g3 := k2 H' ev
        have g5 := k3 H' ev
        have g2 := Dzs.old ev n h2
        have g4 := Dzs.old ev n h4
        have g6 := Dzs.old ev n h6
        refine ⟨⟨_, g1, by rw [g2.len]; exact Nat.le_refl _, _, g3, _, g5⟩, fun i d hd => ?_⟩
        have key : ∃ dx dy dz, [x1, x2, x3][i]? = some dx /\ [y1, y2, y3][i]? = some dy /\ [z1, z2, z3][i]? = some dz /\ d = .tuple [dx, dy, dz] := by
          have hi : i < 3 := (List.getElem?_eq_some_iff.mp hd).1
          match i, hi, hd with
          | 0, _, hd => cases hd; exact ⟨_, _, _, rfl, rfl, rfl, rfl⟩
          | 1, _, hd => cases hd; exact ⟨_, _, _, rfl, rfl, rfl, rfl⟩
          | 2, _, hd => cases hd; exact ⟨_, _, _, rfl, rfl, rfl, rfl⟩
        obtain ⟨dx, dy, dz, kx, ky, kz, rfl⟩ := key
        obtain ⟨vx, ux, zx⟩ := g2.get kx
        obtain ⟨vy, uy, zy⟩ := g4.get ky
        obtain ⟨vz, uz, zz⟩ := g6.get kz
        refine ⟨⟨_, _, _, vx, vy, vz, g1, g3, g5, ux, uy, uz⟩, fun z H2 ⟨a, ha, e, q⟩ => ?_⟩
        have := q _ _ _ _ _ _ g1 g3 g5 ux uy uz
        subst this e
        have s := Same.new ha (.tup [vx, vy, vz])
        have e : Ev (fun _ => False) H' (upd H' a (.tup [vx, vy, vz])) := Ev.of s
        exact ⟨s, .tup (SqT.of upd_same) (.cons (zx.ev e fun _ _ h => h) (.cons (zy.ev e fun _ _ h => h) (.cons (zz.ev e fun _ _ h => h) .nil)))⟩
theorem E1.ixB {b : Bool} {i : Int} {d : Dat} (ha : E1 p K ta τ (.dat (sqD b ds))) (hb : E1 p K tb τ (.dat (.int i))) (h : atI ds i = some d) : E1 p K (tOp (fun x y H Q => rIxL K x y H Q \/ rIxT K x y H Q) ta tb) τ (.dat d) :=
  E1.op2 ha hb fun W H0 H x y Q o0 o r1 r2 q => by
    cases r2.int_inv
    cases b with
    | true =>
      cases r1 with
      | lst h1 h2 =>
        obtain ⟨x, e1, e2⟩ := atI_dz h2 h
        exact .inl ⟨_, _, i, x, rfl, rfl, h1.sq, e1, q _ H Ev.refl o e2⟩
    | false =>
      cases r1 with
      | tup h1 h2 =>
        obtain ⟨x, e1, e2⟩ := atI_dz h2 h
        exact .inr ⟨_, _, i, x, rfl, rfl, h1, e1, q _ H Ev.refl o e2⟩
variable {P : Program} {w : World} {mg : Str -> Option Value} {base : Heap}
theorem okX {x qual : Str} {st : Stmt} {f : Addr} {fd : FuncData} {N ps : List Str} {k : Nat} {R : List Dat -> (Dat -> Prop) -> Prop} (F : Fun K x qual st f fd) (S0 : FnScope N ps (defScope st)) (len : ∀ ds C, R ds C -> ds.length = ps.length)
    (body : ∀ (cdv : Value) (A : Around) (outer : List Env) (s : Shared) (H : Hp) (E : XK), Room k (A.deeper (PyProof.Rows.envOfC qual (defScope st) s.heap.objs.size f cdv)) ->
      ∃ t, ZSs (cxOf CX0 P w K mg base N qual (defScope st) f cdv A outer s H E).nox (defBody st) t /\ ∀ ds C, R ds C -> S none K t (ds.map .dat ++ List.replicate (N.length - ps.length) .un) (fun _ => False) (fun s => ∃ d, C d /\ GivesX d s)) : FnOk P w K mg base CX0 (k + 1) f fd ps (spX K R) := by
  refine F.okZ S0 (fun vs H Q E h => ?_) (fun cdv A outer s H vs Q E hr h => ?_)
  . obtain ⟨ds, C, z, r, _⟩ := h; rw [z.len]; exact len ds C r
  . obtain ⟨ds, C, z, r, q⟩ := h
    obtain ⟨t, hz, hs⟩ := body cdv A outer s H E hr
    refine ⟨t, hz, ?_⟩
    have l : vs.length = ps.length := by rw [z.len]; exact len ds C r
    have r0 : Rs none (fun _ => False) K H [] (L2.start N vs) (ds.map .dat ++ List.replicate (N.length - ps.length) .un) := by
      unfold L2.start
      rw [l]
      exact rs_start _ z fun a _ h => h
    have same : ∀ {H' : Hp}, Ev (fun _ => False) H H' -> Same H H' := fun e b o h => e.keep b o (fun z => z) h
    refine hs ds C r (fun _ => False) [] _ H _ r0 ⟨fun q h => (by cases h), fun a h => False.elim h⟩ (fun W' L' σ' H' τ' e ev o' al n l r' => e.elim) (fun W' H' v s e ev o' al n rv => ?_)
    obtain ⟨d, c, e⟩ := e
    cases s with
    | dat d' =>
      obtain rfl : d = d' := e
      exact q v H' _ c (same ev) (Dz.mono (fun _ _ => trivial) rv)
    | own es =>
      obtain rfl : d = .list es := e
      obtain ⟨a, vs, rfl, h1, h2, h3⟩ := rv
      exact q _ H' _ c (same ev) (.lst (.inl ⟨trivial, .inl h2⟩) (h3.mono fun _ _ => trivial))
    | un => cases e
    | pu => cases e
    | vw ds => cases e
end
end D
end
namespace D
open PySem L2 K0 Num
open PySem.W (Dat)
noncomputable def IR (x y z : Int) : Row3 := ⟨x, y, z⟩
noncomputable def TnQ (w x y z : Int) (r s : Row3) : Prop := Q1 w x y z r.x r.y r.z = s.x /\ Q2 w x y z r.x r.y r.z = s.y /\ Q3 w x y z r.x r.y r.z = s.z
theorem Tn.q {w x y z : Int} {r s : Row3} (h : Tn w (IR x y z) r s) (nz : ∃ n ∈ [w, x, y, z], n ≠ 0) : TnQ w x y z r s := by
  have hn := N4_ne (rfl : [w, x, y, z] = [w, x, y, z]) nz
  unfold Tn rot Row3.sm nq IR at h
  dsimp only at h
  injection h with h1 h2 h3
  refine ⟨?_, ?_, ?_⟩
  . show K0.R1 w x y z r.x r.y r.z / N4 w x y z = s.x
    rw [h1]; grind
  . show K0.R2 w x y z r.x r.y r.z / N4 w x y z = s.y
    rw [h2]; grind
  . show K0.R3 w x y z r.x r.y r.z / N4 w x y z = s.z
    rw [h3]; grind
theorem TnQ.t {w x y z : Int} {r s : Row3} (h : TnQ w x y z r s) (nz : ∃ n ∈ [w, x, y, z], n ≠ 0) : Tn w (IR x y z) r s := by
  have hn := N4_ne (rfl : [w, x, y, z] = [w, x, y, z]) nz
  obtain ⟨h1, h2, h3⟩ := h
  have k1 : K0.R1 w x y z r.x r.y r.z / N4 w x y z = s.x := h1
  have k2 : K0.R2 w x y z r.x r.y r.z / N4 w x y z = s.y := h2
  have k3 : K0.R3 w x y z r.x r.y r.z / N4 w x y z = s.z := h3
  unfold Tn rot Row3.sm nq IR
  exact Row3.ext' (by dsimp only; grind) (by dsimp only; grind) (by dsimp only; grind)
theorem nq_ne {w x y z : Int} (nz : ∃ n ∈ [w, x, y, z], n ≠ 0) : nq w (IR x y z) ≠ 0 := N4_ne (rfl : [w, x, y, z] = [w, x, y, z]) nz
theorem TnQ.pl {w x y z p q r t : Int} {a s : Row3} (h : TnQ w x y z a s) (nz : ∃ n ∈ [w, x, y, z], n ≠ 0) (hp : pl [w, x, y, z] = [p, q, r, t]) : TnQ p q r t a s := by
  obtain ⟨h1, h2, h3⟩ := h
  exact ⟨(R1_pl hp nz).symm.trans h1, (R2_pl hp nz).symm.trans h2, (R3_pl hp nz).symm.trans h3⟩
theorem one_four {w x y z w' x' y' z' : Int} {r1 r2 s1 s2 : Row3} (nz : ∃ n ∈ [w, x, y, z], n ≠ 0) (nz' : ∃ n ∈ [w', x', y', z'], n ≠ 0) (n3 : r1.cx r2 ≠ r0) (h1 : TnQ w x y z r1 s1) (h2 : TnQ w x y z r2 s2) (k1 : TnQ w' x' y' z' r1 s1) (k2 : TnQ w' x' y' z' r2 s2) : pl [w, x, y, z] = pl [w', x', y', z'] := by
  have key : ∀ a b c : Rat, Alike w x y z w' x' y' z' a b c := fun a b c => by
    obtain ⟨t, e1, e2⟩ := tn_one (nq_ne nz) (nq_ne nz') n3 (h1.t nz) (h2.t nz) (k1.t nz') (k2.t nz') ⟨a, b, c⟩
    obtain ⟨q1, q2, q3⟩ := e1.q nz
    obtain ⟨p1, p2, p3⟩ := e2.q nz'
    exact ⟨q1.trans p1.symm, q2.trans p2.symm, q3.trans p3.symm⟩
  exact alike_pl nz nz' (key 1 0 0) (key 2 1 0) (key (-1) 3 1)
noncomputable def RRdif : List Dat -> Dat -> Prop := fun ds d => ∃ a b c e f g : Int, ds = [tI [a, b, c], tI [e, f, g]] /\ d = tI [a - e, b - f, c - g]
noncomputable def RLevL : List Dat -> (Dat -> Prop) -> Prop := fun ds C => ∃ (qs : List Rat) (B : Int) (c : Nat), ds = [.list (qs.map fun q => tI (qf q))] /\ qs.length <= 100 /\ 0 < B /\ Bt B c /\ c <= 2900 /\ (∀ q ∈ qs, FB B c q) /\ C = fun g => ∃ L : Int, g = .tuple [tI (qs.map (topL L)), .int L] /\ 0 < L /\ L ∣ B /\ ∀ q ∈ qs, (q.den : Int) ∣ L
noncomputable def topR (L : Int) (r : Row3) : List Int := [topL L r.x, topL L r.y, topL L r.z]
noncomputable def RLvP : List Dat -> (Dat -> Prop) -> Prop := fun ds C => ∃ (b : Bool) (a1 a2 a3 : Row3) (B : Int) (c : Nat), ds = [sqD b [a1.d, a2.d, a3.d]] /\ 0 < B /\ Bt B c /\ c <= 2900 /\ TabP (FB B c) a1 a2 a3 /\ C = fun g => ∃ L : Int, g = .tuple [.list [tI (topR L a1), tI (topR L a2), tI (topR L a3)], .int L] /\ 0 < L /\ L ∣ B /\ ∀ q ∈ [a1.x, a1.y, a1.z, a2.x, a2.y, a2.z, a3.x, a3.y, a3.z], (q.den : Int) ∣ L
structure Wh (M : Int) (n : Nat) (p : Row3) (x y z : Int) : Prop where
  e : IR x y z = Row3.sm M p
  b : Bd (2 ^ n) [x, y, z]
noncomputable def ROne : List Dat -> (Dat -> Prop) -> Prop := fun ds C => ∃ (b b' : Bool) (p0 p1 p2 o0 o1 o2 : Row3), ds = [sqD b [p0.d, p1.d, p2.d], sqD b' [o0.d, o1.d, o2.d]] /\ TB 129 p0 p1 p2 /\ TB 193 o0 o1 o2 /\ C = fun g => ∃ (M a b c d e f g' h i a' b' c' d' e' f' k' h' i' : Int), g = .tuple [.list [tI [a, b, c], tI [d, e, f], tI [g', h, i]], .list [tI [a', b', c'], tI [d', e', f'], tI [k', h', i']]] /\ 0 < M /\ Wh M 322 p0 a b c /\ Wh M 322 p1 d e f /\ Wh M 322 p2 g' h i /\ Wh M 322 o0 a' b' c' /\ Wh M 322 o1 d' e' f' /\ Wh M 322 o2 k' h' i'
noncomputable def Tb (r1 r2 s1 s2 : Row3) : Dat -> Prop := fun g => ∃ w x y z : Int, g = tI [w, x, y, z] /\ (∃ n ∈ [w, x, y, z], n ≠ 0) /\ pl [w, x, y, z] = [w, x, y, z] /\ Bd (2 ^ 1000) [w, x, y, z] /\ TnQ w x y z r1 s1 /\ TnQ w x y z r2 s2
noncomputable def RTb : List Dat -> (Dat -> Prop) -> Prop := fun ds C => ∃ a b c d e f p q r s t u : Int, ds = [tI [a, b, c], tI [d, e, f], tI [p, q, r], tI [s, t, u]] /\ Bd (2 ^ 323) [a, b, c] /\ Bd (2 ^ 323) [d, e, f] /\ Bd (2 ^ 323) [p, q, r] /\ Bd (2 ^ 323) [s, t, u] /\ Gram (IR a b c) (IR d e f) (IR p q r) (IR s t u) /\ (IR a b c).cx (IR d e f) ≠ r0 /\ C = Tb (IR a b c) (IR d e f) (IR p q r) (IR s t u)
noncomputable def RT3 : List Dat -> (Dat -> Prop) -> Prop := fun ds C => ∃ a b c d e f p q r s t u : Int, ds = [.tuple [tI [a, b, c], tI [d, e, f], tI (cr a b c d e f)], .tuple [tI [p, q, r], tI [s, t, u], tI (cr p q r s t u)]] /\ Bd (2 ^ 323) [a, b, c] /\ Bd (2 ^ 323) [d, e, f] /\ Bd (2 ^ 323) [p, q, r] /\ Bd (2 ^ 323) [s, t, u] /\ Gram (IR a b c) (IR d e f) (IR p q r) (IR s t u) /\ (IR a b c).cx (IR d e f) ≠ r0 /\ C = Tb (IR a b c) (IR d e f) (IR p q r) (IR s t u)
theorem IR_sub {a b c p q r : Int} : IR (p - a) (q - b) (r - c) = (IR p q r).sub (IR a b c) := by
  unfold IR Row3.sub
  push_cast
  rfl
theorem IR_add {a b c p q r : Int} : IR (a + p) (b + q) (c + r) = (IR a b c).add (IR p q r) := by
  unfold IR Row3.add
  push_cast
  rfl
theorem IR_cr {a b c d e f x y z : Int} (h : cr a b c d e f = [x, y, z]) : IR x y z = (IR a b c).cx (IR d e f) := by
  unfold cr at h
  injection h with h1 h
  injection h with h2 h
  injection h with h3 _
  subst h1 h2 h3
  unfold IR Row3.cx
  push_cast
  rfl
theorem sop_dot {a b c d e f : Int} : ((sop [a, b, c] [d, e, f] : Int) : Rat) = (IR a b c).dot (IR d e f) := by
  rw [sop33]
  unfold IR Row3.dot
  push_cast
  rfl
theorem IR_r0 {x y z : Int} : IR x y z = r0 ↔ [x, y, z] = [0, 0, 0] := by
  unfold IR r0
  constructor
  . intro h
    injection h with h1 h2 h3
    have e1 : x = 0 := by exact_mod_cast h1
    have e2 : y = 0 := by exact_mod_cast h2
    have e3 : z = 0 := by exact_mod_cast h3
    rw [e1, e2, e3]
  . intro h
    injection h with h1 h
    injection h with h2 h
    injection h with h3 _
    subst h1 h2 h3
    rfl
theorem bd3 {x y z : Int} {k : Nat} (h : Bd (2 ^ k) [x, y, z]) : Bt x k /\ Bt y k /\ Bt z k := ⟨h x (by simp), h y (by simp), h z (by simp)⟩
theorem bd3' {x y z : Int} {k : Nat} (h1 : Bt x k) (h2 : Bt y k) (h3 : Bt z k) : Bd (2 ^ k) [x, y, z] := fun n hn => by
  simp only [List.mem_cons, List.mem_nil_iff, or_false] at hn
  rcases hn with rfl | rfl | rfl
  . exact h1
  . exact h2
  . exact h3
theorem bt_sub {x y : Int} {k : Nat} (h1 : Bt x k) (h2 : Bt y k) : Bt (x - y) (k + 1) := by rw [Int.sub_eq_add_neg]; exact h1.add (Bt.neg' h2)
theorem bd_sub3 {a b c d e f : Int} {k : Nat} (h : Bd (2 ^ k) [a, b, c]) (g : Bd (2 ^ k) [d, e, f]) : Bd (2 ^ (k + 1)) [a - d, b - e, c - f] := by
  obtain ⟨h1, h2, h3⟩ := bd3 h
  obtain ⟨g1, g2, g3⟩ := bd3 g
  exact bd3' (bt_sub h1 g1) (bt_sub h2 g2) (bt_sub h3 g3)
theorem bd_add3 {a b c d e f : Int} {k : Nat} (h : Bd (2 ^ k) [a, b, c]) (g : Bd (2 ^ k) [d, e, f]) : Bd (2 ^ (k + 1)) [a + d, b + e, c + f] := by
  obtain ⟨h1, h2, h3⟩ := bd3 h
  obtain ⟨g1, g2, g3⟩ := bd3 g
  exact bd3' (h1.add g1) (h2.add g2) (h3.add g3)
theorem bd_cr3 {a b c d e f x y z : Int} {k m : Nat} (h : Bd (2 ^ k) [a, b, c]) (g : Bd (2 ^ m) [d, e, f]) (e' : cr a b c d e f = [x, y, z]) : Bd (2 ^ (k + m + 1)) [x, y, z] := by
  obtain ⟨h1, h2, h3⟩ := bd3 h
  obtain ⟨g1, g2, g3⟩ := bd3 g
  unfold cr at e'
  rw [<- e']
  exact bd3' (bt_sub (h2.mul g3) (h3.mul g2)) (bt_sub (h3.mul g1) (h1.mul g3)) (bt_sub (h1.mul g2) (h2.mul g1))
theorem bt_sop3 {a b c d e f : Int} {k m : Nat} (h : Bd (2 ^ k) [a, b, c]) (g : Bd (2 ^ m) [d, e, f]) : Bt (sop [a, b, c] [d, e, f]) (k + m + 2) := by
  obtain ⟨h1, h2, h3⟩ := bd3 h
  obtain ⟨g1, g2, g3⟩ := bd3 g
  rw [sop33]
  exact ((h1.mul g1).add (h2.mul g2)).add ((h3.mul g3).up (by omega))
theorem tb_of {w x y z : Int} {r1 r2 s1 s2 : Row3} (nz : ∃ n ∈ [w, x, y, z], n ≠ 0) (bd : Bd (2 ^ 1000) [w, x, y, z]) (h1 : Tn w (IR x y z) r1 s1) (h2 : Tn w (IR x y z) r2 s2) : Tb r1 r2 s1 s2 (tI (pl [w, x, y, z])) := by
  obtain ⟨p, q, r, t, e⟩ := four_of (show (pl [w, x, y, z]).length = 4 by rw [pl_length]; rfl)
  have np : ∃ n ∈ [p, q, r, t], n ≠ 0 := e ▸ nz_pl nz
  have pp := pl_pl nz
  have bp : Bd (2 ^ 1000) [p, q, r, t] := e ▸ bd_pl nz bd
  rw [e] at pp
  exact ⟨p, q, r, t, by rw [e], np, pp, bp, (h1.q nz).pl nz e, (h2.q nz).pl nz e⟩
theorem nz_tail {w x y z : Int} (h : [x, y, z] ≠ [0, 0, 0]) : ∃ n ∈ [w, x, y, z], n ≠ 0 := by
  by_cases h1 : x = 0
  . by_cases h2 : y = 0
    . by_cases h3 : z = 0
      . subst h1 h2 h3; exact absurd rfl h
      . exact ⟨z, by simp, h3⟩
    . exact ⟨y, by simp, h2⟩
  . exact ⟨x, by simp, h1⟩
theorem dot_ne {r1 r2 : Row3} (h : r1.cx r2 ≠ r0) : r1.dot r1 ≠ 0 /\ r2.dot r2 ≠ 0 := by
  constructor
  . intro z
    refine h ?_
    rw [sq0 z]
    unfold Row3.cx r0
    dsimp only
    congr 1 <;> grind
  . intro z
    refine h ?_
    rw [sq0 z]
    unfold Row3.cx r0
    dsimp only
    congr 1 <;> grind
theorem one_pl : pl [1, 0, 0, 0] = [1, 0, 0, 0] := by decide
theorem tb_none {r1 r2 : Row3} : Tb r1 r2 r1 r2 (tI [1, 0, 0, 0]) := by
  have nz : ∃ n ∈ [(1 : Int), 0, 0, 0], n ≠ 0 := ⟨1, by simp, by decide⟩
  have key : ∀ r : Row3, TnQ 1 0 0 0 r r := fun r => by
    refine Tn.q ?_ nz
    unfold Tn rot Row3.sm nq IR N4 R1 K0.R2 R3
    exact Row3.ext' (by dsimp only; push_cast; grind) (by dsimp only; push_cast; grind) (by dsimp only; push_cast; grind)
  exact ⟨1, 0, 0, 0, rfl, nz, one_pl, bd_mono (show Bd 1 [(1 : Int), 0, 0, 0] by unfold Bd; decide) Nat.one_le_two_pow, key r1, key r2⟩
theorem wk_sq {p : Option Addr} {K : PySem.W.Frag} {τ : List Sl} {te : TE} {b : Bool} {ds : List Dat} (h : E1 p K te τ (.dat (sqD b ds))) : Wk p K (iOr (iTup K te) (iList K te)) τ ds := by
  cases b with
  | true => exact Wk.orR (Wk.lst h)
  | false => exact Wk.orL (Wk.tup h)
theorem ne_of_b {p : Prop} [Decidable p] (h : (!decide p) = true) : ¬ p := fun z => by rw [decide_eq_true z] at h; cases h
theorem eq_of_b {p : Prop} [Decidable p] (h : (!decide p) = false) : p := by
  by_cases z : p
  . exact z
  . rw [decide_eq_false z] at h; cases h
noncomputable def d2 (a b : Row3) : Rat := (b.sub a).dot (b.sub a)
structure Only (p0 p1 p2 o0 o1 o2 : Row3) (w x y z : Int) (u v t : Rat) : Prop where
  nz : ∃ n ∈ [w, x, y, z], n ≠ 0
  p : pl [w, x, y, z] = [w, x, y, z]
  b : Bd (2 ^ 1000) [w, x, y, z]
  h1 : TnQ w x y z (p1.sub p0) (o1.sub o0)
  h2 : TnQ w x y z (p2.sub p0) (o2.sub o0)
  su : u = o0.x + -Q1 w x y z p0.x p0.y p0.z
  sv : v = o0.y + -Q2 w x y z p0.x p0.y p0.z
  st : t = o0.z + -Q3 w x y z p0.x p0.y p0.z
noncomputable def noD (i j : Int) : Dat := .tuple [.str "none", .int i, .int j]
noncomputable def onD (w x y z : Int) (u v t : Rat) : Dat := .tuple [.str "only", .tuple [tI [w, x, y, z], ptQ u v t]]
inductive Led3 (p0 p1 p2 o0 o1 o2 : Row3) : Dat -> Prop
  | a (h : d2 p0 p1 ≠ d2 o0 o1) : Led3 p0 p1 p2 o0 o1 o2 (noD 0 1)
  | b (h : d2 p0 p1 = d2 o0 o1) (h' : d2 p0 p2 ≠ d2 o0 o2) : Led3 p0 p1 p2 o0 o1 o2 (noD 0 2)
  | c (h : d2 p0 p1 = d2 o0 o1) (h' : d2 p0 p2 = d2 o0 o2) (h'' : d2 p1 p2 ≠ d2 o1 o2) : Led3 p0 p1 p2 o0 o1 o2 (noD 1 2)
  | only (h : d2 p0 p1 = d2 o0 o1) (h' : d2 p0 p2 = d2 o0 o2) (h'' : d2 p1 p2 = d2 o1 o2) {w x y z : Int} {u v t : Rat} (k : Only p0 p1 p2 o0 o1 o2 w x y z u v t) : Led3 p0 p1 p2 o0 o1 o2 (onD w x y z u v t)
noncomputable def RLedT : List Dat -> (Dat -> Prop) -> Prop := fun ds C => ∃ (b b' : Bool) (p0 p1 p2 o0 o1 o2 : Row3), ds = [sqD b [p0.d, p1.d, p2.d], sqD b' [o0.d, o1.d, o2.d]] /\ TB 129 p0 p1 p2 /\ TB 193 o0 o1 o2 /\ (p1.sub p0).cx (p2.sub p0) ≠ r0 /\ C = Led3 p0 p1 p2 o0 o1 o2
theorem wh_top {L L' : Int} {p : Row3} {B : Int} {c c' : Nat} (h0 : 0 < B) (L0 : 0 < L) (L0' : 0 < L') (LB : L ∣ B) (bL : Bt L' c') (hp : RP (FB B c) p) (d1 : (p.x.den : Int) ∣ L) (d2 : (p.y.den : Int) ∣ L) (d3 : (p.z.den : Int) ∣ L) (e : c' + c <= 322) : Wh (L * L') 322 p (L' * topL L p.x) (L' * topL L p.y) (L' * topL L p.z) := by
  refine ⟨?_, bd3' ((bL.mul (topL_bt hp.1 h0 L0 LB d1)).up e) ((bL.mul (topL_bt hp.2.1 h0 L0 LB d2)).up e) ((bL.mul (topL_bt hp.2.2 h0 L0 LB d3)).up e)⟩
  have e1 := topL_val d1
  have e2 := topL_val d2
  have e3 := topL_val d3
  unfold IR Row3.sm
  refine Row3.ext' ?_ ?_ ?_
  . dsimp only; push_cast; rw [e1]; grind
  . dsimp only; push_cast; rw [e2]; grind
  . dsimp only; push_cast; rw [e3]; grind
theorem wh_swap {L L' : Int} {n : Nat} {p : Row3} {x y z : Int} (h : Wh (L * L') n p x y z) : Wh (L' * L) n p x y z := ⟨by rw [h.e, Int.mul_comm L' L], h.b⟩
theorem wh_sub {M : Int} {n : Nat} {p q : Row3} {x y z x' y' z' : Int} (h : Wh M n p x y z) (g : Wh M n q x' y' z') : Wh M (n + 1) (q.sub p) (x' - x) (y' - y) (z' - z) := by
  refine ⟨?_, bd_sub3 g.b h.b⟩
  rw [IR_sub, h.e, g.e]
  unfold Row3.sub Row3.sm
  exact Row3.ext' (by dsimp only; grind) (by dsimp only; grind) (by dsimp only; grind)
theorem dot_sm {k : Rat} {a b : Row3} : (Row3.sm k a).dot (Row3.sm k b) = k * k * a.dot b := by
  unfold Row3.sm Row3.dot
  dsimp only
  grind
theorem cx_sm {k : Rat} {a b : Row3} : (Row3.sm k a).cx (Row3.sm k b) = Row3.sm (k * k) (a.cx b) := by
  unfold Row3.sm Row3.cx
  dsimp only
  congr 1 <;> grind
theorem size_iff {M : Int} (M0 : 0 < M) {n : Nat} {p q o r : Row3} {x y z x' y' z' : Int} (h : Wh M n (q.sub p) x y z) (g : Wh M n (r.sub o) x' y' z') : sop [x, y, z] [x, y, z] = sop [x', y', z'] [x', y', z'] ↔ d2 p q = d2 o r := by
  have hM := cast_ne (show M ≠ 0 by omega)
  have e1 : ((sop [x, y, z] [x, y, z] : Int) : Rat) = M * M * d2 p q := by rw [sop_dot, h.e, dot_sm]; rfl
  have e2 : ((sop [x', y', z'] [x', y', z'] : Int) : Rat) = M * M * d2 o r := by rw [sop_dot, g.e, dot_sm]; rfl
  constructor
  . intro e
    rw [e] at e1
    rw [e1] at e2
    grind
  . intro e
    rw [e, <- e2] at e1
    exact_mod_cast e1
theorem gram_of {M : Int} {n : Nat} {p0 p1 p2 o0 o1 o2 : Row3} {a b c d e f p q r s t u : Int} (h1 : d2 p0 p1 = d2 o0 o1) (h2 : d2 p0 p2 = d2 o0 o2) (h3 : d2 p1 p2 = d2 o1 o2) (k1 : Wh M n (p1.sub p0) a b c) (k2 : Wh M n (p2.sub p0) d e f) (k3 : Wh M n (o1.sub o0) p q r) (k4 : Wh M n (o2.sub o0) s t u) : Gram (IR a b c) (IR d e f) (IR p q r) (IR s t u) := by
  refine ⟨?_, ?_, ?_⟩
  . rw [k1.e, k3.e, dot_sm, dot_sm]
    exact congrArg _ h1
  . rw [k2.e, k4.e, dot_sm, dot_sm]
    exact congrArg _ h2
  . rw [k1.e, k2.e, k3.e, k4.e, dot_sm, dot_sm]
    refine congrArg _ ?_
    unfold d2 at h1 h2 h3
    unfold Row3.dot Row3.sub at *
    dsimp only at *
    grind
theorem cx_ne_of {M : Int} (M0 : 0 < M) {n : Nat} {r1 r2 : Row3} {a b c d e f : Int} (k1 : Wh M n r1 a b c) (k2 : Wh M n r2 d e f) (h : r1.cx r2 ≠ r0) : (IR a b c).cx (IR d e f) ≠ r0 := by
  have hM := cast_ne (show M ≠ 0 by omega)
  rw [k1.e, k2.e, cx_sm]
  intro z
  refine h (sm_cancel (k := (M : Rat) * M) (by grind) ?_)
  rw [z]
  unfold Row3.sm r0
  exact Row3.ext' (by dsimp only; grind) (by dsimp only; grind) (by dsimp only; grind)
theorem tnq_of {M : Int} (M0 : 0 < M) {n : Nat} {r s : Row3} {a b c d e f w x y z : Int} (nz : ∃ n ∈ [w, x, y, z], n ≠ 0) (k1 : Wh M n r a b c) (k2 : Wh M n s d e f) (h : TnQ w x y z (IR a b c) (IR d e f)) : TnQ w x y z r s := by
  have hM := cast_ne (show M ≠ 0 by omega)
  have := h.t nz
  rw [k1.e, k2.e] at this
  exact (Tn.div hM this).q nz
theorem RP.pb {B : Int} {c : Nat} {r : Row3} (h : RP (FB B c) r) (h0 : 0 < B) (hB : Bt B c) : PB c r.x r.y r.z := by
  obtain ⟨⟨t1, b1, e1⟩, ⟨t2, b2, e2⟩, t3, b3, e3⟩ := h
  exact ⟨B, t1, t2, t3, h0, hB, b1, b2, b3, e1, e2, e3⟩
noncomputable def RNb3 : List Dat -> (Dat -> Prop) -> Prop := fun ds C => ds = [] /\ C = fun d => ∃ x y z : Rat, d = ptQ x y z /\ Nb x /\ Nb y /\ Nb z
theorem row_nb {r : Row3} (h : RP Nb r) : ∃ C : Int, 0 < C /\ Bt C 24 /\ RP (FB C 48) r := by
  obtain ⟨⟨a1, b1, e1, p1, k1, l1⟩, ⟨a2, b2, e2, p2, k2, l2⟩, a3, b3, e3, p3, k3, l3⟩ := h
  have f1 : FB b1 32 r.x := ⟨a1, k1, e1⟩
  have f2 : FB b2 32 r.y := ⟨a2, k2, e2⟩
  have f3 : FB b3 32 r.z := ⟨a3, k3, e3⟩
  have p23 := Int.mul_pos p2 p3
  have p13 := Int.mul_pos p1 p3
  have p12 := Int.mul_pos p1 p2
  have g1 := f1.scale (k := b2 * b3) (by omega) (by omega) (l2.mul l3)
  have g2 := f2.scale (k := b1 * b3) (by omega) (by omega) (l1.mul l3)
  have g3 := f3.scale (k := b1 * b2) (by omega) (by omega) (l1.mul l2)
  rw [show b2 * (b1 * b3) = b1 * (b2 * b3) by grind] at g2
  rw [show b3 * (b1 * b2) = b1 * (b2 * b3) by grind] at g3
  exact ⟨b1 * (b2 * b3), Int.mul_pos p1 p23, l1.mul (l2.mul l3), g1, g2, g3⟩
theorem RP.scale {C k : Int} {c m : Nat} {r : Row3} (h : RP (FB C c) r) (hk : k ≠ 0) (hC : C ≠ 0) (bk : Bt k m) : RP (FB (C * k) (c + m)) r := ⟨h.1.scale hk hC bk, h.2.1.scale hk hC bk, h.2.2.scale hk hC bk⟩
noncomputable def Nr3 (p0 p1 p2 : Row3) : Prop := ∃ C : Int, 0 < C /\ Bt C 72 /\ TabP (FB C 96) p0 p1 p2
theorem nr3_of {p0 p1 p2 : Row3} (h0 : RP Nb p0) (h1 : RP Nb p1) (h2 : RP Nb p2) : Nr3 p0 p1 p2 := by
  obtain ⟨a, a0, la, fa⟩ := row_nb h0
  obtain ⟨b, b0, lb, fb⟩ := row_nb h1
  obtain ⟨c, c0, lc, fc⟩ := row_nb h2
  have pbc := Int.mul_pos b0 c0
  have pac := Int.mul_pos a0 c0
  have pab := Int.mul_pos a0 b0
  have g0 := fa.scale (k := b * c) (by omega) (by omega) (lb.mul lc)
  have g1 := fb.scale (k := a * c) (by omega) (by omega) (la.mul lc)
  have g2 := fc.scale (k := a * b) (by omega) (by omega) (la.mul lb)
  rw [show b * (a * c) = a * (b * c) by grind] at g1
  rw [show c * (a * b) = a * (b * c) by grind] at g2
  exact ⟨a * (b * c), Int.mul_pos a0 pbc, la.mul (lb.mul lc), g0, g1, g2⟩
theorem Nr3.tb {p0 p1 p2 : Row3} (h : Nr3 p0 p1 p2) : TB 129 p0 p1 p2 := by
  obtain ⟨C, h0, hC, t⟩ := h
  exact ⟨C, h0, hC.up (by decide), t.mono fun _ z => z.up (by decide)⟩
noncomputable def qrow (w x y z : Int) (r : Row3) : Row3 := ⟨Q1 w x y z r.x r.y r.z, Q2 w x y z r.x r.y r.z, Q3 w x y z r.x r.y r.z⟩
theorem qrow_fb {w x y z C : Int} {c m : Nat} {r : Row3} (nz : ∃ n ∈ [w, x, y, z], n ≠ 0) (bd : Bd (2 ^ m) [w, x, y, z]) (h0 : 0 < C) (h : RP (FB C c) r) : RP (FB (C * nrm [w, x, y, z]) (c + 2 * m + 5)) (qrow w x y z r) := by
  obtain ⟨⟨T1, h2, e1⟩, ⟨T2, h3, e2⟩, T3, h4, e3⟩ := h
  have np := nrm_pos (ns := [w, x, y, z]) rfl nz
  have cN : ((nrm [w, x, y, z] : Int) : Rat) = N4 w x y z := by unfold nrm N4; push_cast; rfl
  obtain ⟨W1, W2, W3⟩ := rows_btG bd
  have s3 : ∀ {r1 r2 r3 : Int}, (∀ n ∈ [r1, r2, r3], Bt n (2 * m + 3)) -> Bt (sop [r1, r2, r3] [T1, T2, T3]) (c + 2 * m + 5) := fun {r1 r2 r3} h => by
    rw [sop3]
    have a := ((h r1 (by simp)).mul h2)
    have b := ((h r2 (by simp)).mul h3)
    have c := ((h r3 (by simp)).mul h4)
    exact ((a.add b).add (c.up (by omega))).up (by omega)
  refine ⟨⟨sop (rw1 w x y z) [T1, T2, T3], s3 W1, ?_⟩, ⟨sop (rw2 w x y z) [T1, T2, T3], s3 W2, ?_⟩, ⟨sop (rw3 w x y z) [T1, T2, T3], s3 W3, ?_⟩⟩
  . unfold rw1; rw [qv_sop (by omega) (by omega), e1, e2, e3, cN]; show _ = K0.R1 w x y z r.x r.y r.z / N4 w x y z; unfold K0.R1; push_cast; rfl
  . unfold rw2; rw [qv_sop (by omega) (by omega), e1, e2, e3, cN]; show _ = K0.R2 w x y z r.x r.y r.z / N4 w x y z; unfold K0.R2; push_cast; rfl
  . unfold rw3; rw [qv_sop (by omega) (by omega), e1, e2, e3, cN]; show _ = K0.R3 w x y z r.x r.y r.z / N4 w x y z; unfold K0.R3; push_cast; rfl
noncomputable def Ot3 (o0 o1 o2 : Row3) : Prop := ∃ C : Int, 0 < C /\ Bt C 107 /\ TabP (FB C 140) o0 o1 o2
theorem ot_row {w x y z C S : Int} {r s : Row3} (nz : ∃ n ∈ [w, x, y, z], n ≠ 0) (bd : Bd (2 ^ 4) [w, x, y, z]) (h0 : 0 < C) (hC : Bt C 72) (hr : RP (FB C 96) r) (s0 : 0 < S) (bS : Bt S 24) (hs : RP (FB S 48) s) : RP (FB (C * nrm [w, x, y, z] * S) 140) ((qrow w x y z r).add s) := by
  have np := nrm_pos (ns := [w, x, y, z]) rfl nz
  have bN : Bt (nrm [w, x, y, z]) 11 := nrm_btG bd
  have pCN := Int.mul_pos h0 np
  have g1 := (qrow_fb nz bd h0 hr).scale (k := S) (by omega) (by omega) bS
  have g2 := hs.scale (k := C * nrm [w, x, y, z]) (by omega) (by omega) (hC.mul bN)
  rw [Int.mul_comm S] at g2
  have g1' : RP (FB (C * nrm [w, x, y, z] * S) 139) (qrow w x y z r) := g1.mono fun _ z => z.up (by decide)
  have g2' : RP (FB (C * nrm [w, x, y, z] * S) 139) s := g2.mono fun _ z => z.up (by decide)
  exact ⟨g1'.1.add g2'.1, g1'.2.1.add g2'.2.1, g1'.2.2.add g2'.2.2⟩
theorem ot3_of {w x y z : Int} {p0 p1 p2 s : Row3} (nz : ∃ n ∈ [w, x, y, z], n ≠ 0) (bd : Bd (2 ^ 4) [w, x, y, z]) (h : Nr3 p0 p1 p2) (hs : RP Nb s) : Ot3 ((qrow w x y z p0).add s) ((qrow w x y z p1).add s) ((qrow w x y z p2).add s) := by
  obtain ⟨C, h0, hC, t⟩ := h
  obtain ⟨S, s0, bS, fs⟩ := row_nb hs
  have np := nrm_pos (ns := [w, x, y, z]) rfl nz
  have bN : Bt (nrm [w, x, y, z]) 11 := nrm_btG bd
  exact ⟨C * nrm [w, x, y, z] * S, Int.mul_pos (Int.mul_pos h0 np) s0, ((hC.mul bN).mul bS).up (by decide), ot_row nz bd h0 hC t.1 s0 bS fs, ot_row nz bd h0 hC t.2.1 s0 bS fs, ot_row nz bd h0 hC t.2.2 s0 bS fs⟩
theorem Ot3.tb {p0 p1 p2 : Row3} (h : Ot3 p0 p1 p2) : TB 193 p0 p1 p2 := by
  obtain ⟨C, h0, hC, t⟩ := h
  exact ⟨C, h0, hC.up (by decide), t.mono fun _ z => z.up (by decide)⟩
noncomputable def Bn3 (o0 o1 o2 : Row3) : Dat -> Prop := fun g => ∃ (a b d : Row3) (q : Rat), g = .list [a.d, b.d, d.d] /\ (∀ P : Rat -> Prop, TabP P o0 o1 o2 -> P q -> TabP P a b d) /\ ((∃ y, (∀ P : Rat -> Prop, TabP P o0 o1 o2 -> P y) /\ (q = y + 1 \/ q = -y)) \/ Nb q)
noncomputable def RBn3 : List Dat -> (Dat -> Prop) -> Prop := fun ds C => ∃ o0 o1 o2 : Row3, ds = [.list [o0.d, o1.d, o2.d]] /\ C = Bn3 o0 o1 o2
theorem bn_tb {o0 o1 o2 a b d : Row3} {q : Rat} (h : Ot3 o0 o1 o2) (hP : ∀ P : Rat -> Prop, TabP P o0 o1 o2 -> P q -> TabP P a b d) (hq : (∃ y, (∀ P : Rat -> Prop, TabP P o0 o1 o2 -> P y) /\ (q = y + 1 \/ q = -y)) \/ Nb q) : TB 193 a b d := by
  obtain ⟨C, h0, hC, t⟩ := h
  rcases hq with ⟨y, hy, rfl | rfl⟩ | ⟨n, m, e, m0, bn, bm⟩
  . have fy : FB C 140 y := hy _ t
    have f1 : FB C 140 1 := ⟨C, hC.up (by decide), by have := cast_ne (show C ≠ 0 by omega); unfold qv; grind⟩
    exact ⟨C, h0, hC.up (by decide), hP (FB C 193) (t.mono fun _ z => z.up (by decide)) ((fy.add f1).up (by decide))⟩
  . exact ⟨C, h0, hC.up (by decide), hP (FB C 193) (t.mono fun _ z => z.up (by decide)) ((hy _ t).neg.up (by decide))⟩
  . have fq : FB m 32 q := ⟨n, bn, e⟩
    have g := fq.scale (k := C) (by omega) (by omega) hC
    rw [Int.mul_comm] at g
    exact ⟨C * m, Int.mul_pos h0 m0, (hC.mul bm).up (by decide), hP (FB (C * m) 193) (t.mono fun _ z => (z.scale (k := m) (by omega) (by omega) bm).up (by decide)) (g.up (by decide))⟩
noncomputable abbrev Lh (x : Rat) : Prop := Lo 200 x.num x.den x
theorem TB.lh {c : Nat} {a b d : Row3} (h : TB c a b d) (hc : c <= 200) : TabP Lh a b d := by
  obtain ⟨C, h0, hC, t⟩ := h
  refine t.mono fun x hx => ?_
  obtain ⟨t, ht, e⟩ := hx
  exact lo_over h0 (hC.up hc) (ht.up hc) e
noncomputable def RSq2 : List Dat -> Dat -> Prop := fun ds g => ∃ a b : Row3, ds = [a.d, b.d] /\ RP Lh a /\ RP Lh b /\ g = tI (qf (d2 a b))
noncomputable def ROnL : List Dat -> Dat -> Prop := fun ds g => ∃ (a b d : Row3) (v : Bool), ds = [.list [a.d, b.d, d.d]] /\ TabP Lh a b d /\ (v = true ↔ (b.sub a).cx (d.sub a) = r0) /\ g = .bool v
noncomputable def RRt3 : List Dat -> Dat -> Prop := fun ds g => ∃ (p0 p1 p2 o0 o1 o2 : Row3) (dd : Dat), ds = [.list [p0.d, p1.d, p2.d], .list [o0.d, o1.d, o2.d], dd] /\ TB 129 p0 p1 p2 /\ TB 193 o0 o1 o2 /\ (p1.sub p0).cx (p2.sub p0) ≠ r0 /\ (dd = .none \/ ∃ (w x y z : Int) (u v t : Rat), dd = .tuple [tI [w, x, y, z], ptQ u v t] /\ Only p0 p1 p2 o0 o1 o2 w x y z u v t) /\ g = .bool true
theorem only_one {p0 p1 p2 o0 o1 o2 : Row3} {w x y z w' x' y' z' : Int} {u v t u' v' t' : Rat} (n3 : (p1.sub p0).cx (p2.sub p0) ≠ r0) (h : Only p0 p1 p2 o0 o1 o2 w x y z u v t) (k : Only p0 p1 p2 o0 o1 o2 w' x' y' z' u' v' t') : [w, x, y, z] = [w', x', y', z'] /\ u = u' /\ v = v' /\ t = t' := by
  have e := one_four h.nz k.nz n3 h.h1 h.h2 k.h1 k.h2
  rw [h.p, k.p] at e
  have e' := e
  injection e' with e1 e'
  injection e' with e2 e'
  injection e' with e3 e'
  injection e' with e4 _
  subst e1 e2 e3 e4
  exact ⟨rfl, by rw [h.su, k.su], by rw [h.sv, k.sv], by rw [h.st, k.st]⟩
theorem led_one {p0 p1 p2 o0 o1 o2 : Row3} {g g' : Dat} (n3 : (p1.sub p0).cx (p2.sub p0) ≠ r0) (h : Led3 p0 p1 p2 o0 o1 o2 g) (k : Led3 p0 p1 p2 o0 o1 o2 g') : g = g' := by
  cases h with
  | a h1 => cases k with
    | a k1 => rfl
    | b k1 _ => exact absurd k1 h1
    | c k1 _ _ => exact absurd k1 h1
    | only k1 _ _ _ => exact absurd k1 h1
  | b h1 h2 => cases k with
    | a k1 => exact absurd h1 k1
    | b _ _ => rfl
    | c _ k2 _ => exact absurd k2 h2
    | only _ k2 _ _ => exact absurd k2 h2
  | c h1 h2 h3 => cases k with
    | a k1 => exact absurd h1 k1
    | b _ k2 => exact absurd h2 k2
    | c _ _ _ => rfl
    | only _ _ k3 _ => exact absurd k3 h3
  | only h1 h2 h3 ho => cases k with
    | a k1 => exact absurd h1 k1
    | b _ k2 => exact absurd h2 k2
    | c _ _ k3 => exact absurd h3 k3
    | only _ _ _ ko =>
      obtain ⟨e, e1, e2, e3⟩ := only_one n3 ho ko
      unfold onD
      rw [e, e1, e2, e3]
theorem Only.led {p0 p1 p2 o0 o1 o2 : Row3} {w x y z : Int} {u v t : Rat} (h : Only p0 p1 p2 o0 o1 o2 w x y z u v t) : (qrow w x y z p0).add ⟨u, v, t⟩ = o0 /\ (qrow w x y z p1).add ⟨u, v, t⟩ = o1 /\ (qrow w x y z p2).add ⟨u, v, t⟩ = o2 := by
  obtain ⟨nz, _, _, ⟨a1, a2, a3⟩, ⟨b1, b2, b3⟩, su, sv, st⟩ := h
  have hn := N4_ne (rfl : [w, x, y, z] = [w, x, y, z]) nz
  subst su sv st
  unfold Row3.sub at a1 a2 a3 b1 b2 b3
  dsimp only at a1 a2 a3 b1 b2 b3
  unfold Q1 Q2 Q3 K0.R1 K0.R2 K0.R3 at *
  refine ⟨?_, ?_, ?_⟩
  . unfold qrow Row3.add Q1 Q2 Q3 K0.R1 K0.R2 K0.R3
    exact Row3.ext' (by dsimp only; grind) (by dsimp only; grind) (by dsimp only; grind)
  . unfold qrow Row3.add Q1 Q2 Q3 K0.R1 K0.R2 K0.R3
    exact Row3.ext' (by dsimp only; grind) (by dsimp only; grind) (by dsimp only; grind)
  . unfold qrow Row3.add Q1 Q2 Q3 K0.R1 K0.R2 K0.R3
    exact Row3.ext' (by dsimp only; grind) (by dsimp only; grind) (by dsimp only; grind)
theorem only_moved {p0 p1 p2 s : Row3} {w x y z p q r t : Int} (nz : ∃ n ∈ [w, x, y, z], n ≠ 0) (bd : Bd (2 ^ 4) [w, x, y, z]) (e : pl [w, x, y, z] = [p, q, r, t]) : Only p0 p1 p2 ((qrow w x y z p0).add s) ((qrow w x y z p1).add s) ((qrow w x y z p2).add s) p q r t s.x s.y s.z := by
  have np : ∃ n ∈ [p, q, r, t], n ≠ 0 := e ▸ nz_pl nz
  have bp : Bd (2 ^ 4) [p, q, r, t] := e ▸ bd_pl nz bd
  have pp := pl_pl nz
  rw [e] at pp
  have hn := N4_ne (rfl : [w, x, y, z] = [w, x, y, z]) nz
  have lin : ∀ a b : Row3, TnQ w x y z (b.sub a) (((qrow w x y z b).add s).sub ((qrow w x y z a).add s)) := fun a b => by
    unfold TnQ qrow Row3.add Row3.sub Q1 Q2 Q3 K0.R1 K0.R2 K0.R3
    dsimp only
    refine ⟨?_, ?_, ?_⟩ <;> grind
  have q1 : ∀ a : Row3, Q1 p q r t a.x a.y a.z = Q1 w x y z a.x a.y a.z := fun a => (R1_pl e nz).symm
  have q2 : ∀ a : Row3, Q2 p q r t a.x a.y a.z = Q2 w x y z a.x a.y a.z := fun a => (R2_pl e nz).symm
  have q3 : ∀ a : Row3, Q3 p q r t a.x a.y a.z = Q3 w x y z a.x a.y a.z := fun a => (R3_pl e nz).symm
  refine ⟨np, pp, bd_mono bp (Nat.pow_le_pow_right (by decide) (by decide)), (lin p0 p1).pl nz e, (lin p0 p2).pl nz e, ?_, ?_, ?_⟩
  . rw [q1]; unfold qrow Row3.add; dsimp only; grind
  . rw [q2]; unfold qrow Row3.add; dsimp only; grind
  . rw [q3]; unfold qrow Row3.add; dsimp only; grind
section
section
variable {p : Option Addr} {K : PySem.W.Frag} {W : Addr -> Prop} {L : List Addr} {σ : St} {H H0 H1 : Hp} {τ τ' : List Sl} {ta tb te td e1 e2 e3 : TE} {v : V} {s : Sl} {nx : List Sl -> Prop} {rt : Sl -> Prop} {t u : TS} {ds : List Dat}
theorem S.appendX {i : Nat} {ds : List Dat} {d : Dat} {τ' : List Sl} (h : τ[i]? = some (.own ds)) (he : E1 p K te τ (.dat d)) (hz : ds.length < sizeLine) (m : nx τ') (e : τ.set i (.own (ds ++ [d])) = τ' := by rfl) : S p K (tDrop (tBM K "list" rAppend (tVar i) (tCons te tNil))) τ nx rt := fun W L σ H D r o q1 q2 => by
  subst e
  obtain ⟨a, vs, e, w, n, l, h1, z⟩ := r.get_own h
  refine ⟨_, e, .inl ⟨rfl, _, SqL.of h1⟩, he W L σ H _ r o fun v H1 s c e1 o1 rv => ?_⟩
  subst c
  have r1 := r.ev e1 o.pw
  obtain ⟨a', vs', e', w', n', l', h1', z'⟩ := r1.get_own h
  rw [e] at e'; cases e'
  have ev : Ev (fun b => b = a) H1 (upd H1 a (.lst (vs' ++ [v]))) := ⟨fun b o n h => by rw [upd_ne n]; exact h, Tm.lst h1' _⟩
  have nw : ∀ b, ¬ W b -> ¬ b = a := fun b n z => n (z ▸ w)
  have alw : ∀ b, W b -> ∃ ys, upd H1 a (.lst (vs' ++ [v])) b = some (.lst ys) := fun b hb => by
    by_cases z : b = a
    . subst z; exact ⟨_, upd_same⟩
    . rw [upd_ne z]; exact o1.al b hb
  refine ⟨a, vs', v, rfl, rfl, h1', by rw [z'.len]; exact hz, ?_⟩
  refine q1 W L σ _ _ m ((e1.ofP o).trans (ev.mono fun b hb => hb ▸ w)) ⟨fun q hq => ⟨?_, o1.pw q hq⟩, alw⟩ alw (fun _ h => .inl h) (fun _ h => .inl h) (Rs.chgO w h1' ((z'.app (.cons rv .nil)).ev ev nw) r1 h e)
  obtain ⟨x, y, u⟩ := (o1.pu q hq).1
  exact ⟨x, y, by rw [upd_ne (fun z => n' (by rw [<- z]; exact hq))]; exact u⟩
theorem E.li3 {d1 d2 : Dat} {C : Dat -> Prop} (h1 : E1 p K e1 τ (.dat d1)) (h2 : E1 p K e2 τ (.dat d2)) (h3 : E p K e3 τ (fun s => ∃ d, s = .dat d /\ C d)) : E p K (tLst (tCons e1 (tCons e2 (tCons e3 tNil)))) τ (fun s => ∃ d, s = .own [d1, d2, d] /\ C d) := fun W L σ H Q rs o q => by
  have ha : A p K (tCons e1 (tCons e2 (tCons e3 tNil))) τ (fun ss => ∃ d, ss = [.dat d1, .dat d2, .dat d] /\ C d) :=
    A.cons (C1 := fun s => .dat d1 = s) h1 (fun _ _ => A.cons (C1 := fun s => .dat d2 = s) (C := fun ss => ∃ d, ss = [.dat d2, .dat d] /\ C d) h2 (fun _ _ => A.one h3) fun s ss e ⟨s', es, d, ed, c⟩ => ⟨d, by rw [es, ed, <- e], c⟩) fun s ss e ⟨d, es, c⟩ => ⟨d, by rw [es, <- e], c⟩
  refine ha W L σ H _ rs o fun vs H1 ss ⟨d, es, c⟩ ev o1 rv => ?_
  subst es
  have rv' : Rvs p W K H H1 vs ([d1, d2, d].map .dat) := rv
  refine ⟨by rw [rv'.len]; exact z3, fun l hl => ?_⟩
  have s1 := Same.new hl (.lst vs)
  exact q _ _ _ ⟨d, rfl, c⟩ (ev.trans (Ev.of s1)) (o1.same s1) ⟨l, vs, rfl, o1.back ev hl, upd_same, rv'.dats.ev (W := Pp p) (Ev.of s1) o1.nw⟩
theorem E.pick3 {d1 d2 : Dat} {C : Dat -> Prop} (h1 : E1 p K e1 τ (.dat d1)) (h2 : E1 p K e2 τ (.dat d2)) (h3 : E p K e3 τ (fun s => ∃ d, s = .dat d /\ C d)) (hd : EI p K td τ (fun d => 0 <= d /\ d < 3)) : E p K (tOp (rIxL K) (tLst (tCons e1 (tCons e2 (tCons e3 tNil)))) td) τ (fun s => ∃ d, s = .dat d /\ (d = d1 \/ d = d2 \/ C d)) :=
  E.op2 (B := fun _ => True) (E.li3 h1 h2 h3) (fun _ _ => hd) fun s t ⟨d, es, c⟩ ⟨i, et, i0, i3⟩ W H0 H x y Q o0 o r1 r2 q => by
    subst es et
    cases r2.int_inv
    obtain ⟨a, vs, rfl, g0, g1, g2⟩ := r1
    have key : ∃ e, atI [d1, d2, d] i = some e /\ (e = d1 \/ e = d2 \/ C e) := by
      rcases (show i = 0 \/ i = 1 \/ i = 2 by omega) with rfl | rfl | rfl
      . exact ⟨d1, rfl, .inl rfl⟩
      . exact ⟨d2, rfl, .inr (.inl rfl)⟩
      . exact ⟨d, rfl, .inr (.inr c)⟩
    obtain ⟨e, he, ce⟩ := key
    obtain ⟨x, k1, k2⟩ := atI_dz g2 he
    exact ⟨_, _, i, x, rfl, rfl, SqL.of g1, k1, q _ H _ ⟨e, rfl, ce⟩ Ev.refl o k2⟩
theorem E.ixC {C : Dat -> Prop} {i : Int} {D : List Dat -> Prop} (ha : E p K ta τ (fun s => ∃ ds, s = .dat (.tuple ds) /\ D ds)) (hb : E1 p K tb τ (.dat (.int i))) (h : ∀ ds, D ds -> ∃ d, atI ds i = some d /\ C d) : E p K (tOp (rIxT K) ta tb) τ (fun s => ∃ d, s = .dat d /\ C d) :=
  E.op2 (B := fun _ => True) (B' := fun _ x => .dat (.int i) = x) ha (fun _ _ => hb) fun s t ⟨ds, es, c⟩ et W H0 H x y Q o0 o r1 r2 q => by
    subst es et
    cases r2.int_inv
    obtain ⟨d, hd, cd⟩ := h ds c
    cases r1 with
    | tup h1 h2 =>
      obtain ⟨x, k1, k2⟩ := atI_dz h2 hd
      exact ⟨_, _, i, x, rfl, rfl, h1, k1, q _ H _ ⟨d, rfl, cd⟩ Ev.refl o k2⟩
end
theorem dif_made {x y : Rat} (hx : Lh x) (hy : Lh y) : 0 < (x.den : Int) * y.den /\ Bt ((x.den : Int) * y.den) 400 /\ Bt (x.num * y.den - y.num * x.den) 401 /\ qv (x.num * y.den - y.num * x.den) ((x.den : Int) * y.den) = x - y := by
  have p1 := hx.pos
  have p2 := hy.pos
  refine ⟨Int.mul_pos p1 p2, hx.bb.mul hy.bb, bt_sub (hx.bt.mul hy.bb) (hy.bt.mul hx.bb), ?_⟩
  have e1 := hx.val
  have e2 := hy.val
  have c1 := cast_ne (show (x.den : Int) ≠ 0 by omega)
  have c2 := cast_ne (show (y.den : Int) ≠ 0 by omega)
  unfold qv at *
  push_cast at *
  grind
theorem dif_lo {x y : Rat} (hx : Lh x) (hy : Lh y) : Lo 401 (x - y).num (x - y).den (x - y) := by
  obtain ⟨h0, h1, h2, h3⟩ := dif_made hx hy
  exact lo_over h0 (h1.up (by decide)) h2 h3
theorem sq_made {s d : Rat} {k : Nat} (hs : Lo k s.num s.den s) (hd : Lo 401 d.num d.den d) : 0 < (s.den : Int) * (d.den * d.den) /\ Bt ((s.den : Int) * (d.den * d.den)) (k + 802) /\ Bt (s.num * (d.den * d.den) + d.num * d.num * s.den) (k + 803) /\ qv (s.num * (d.den * d.den) + d.num * d.num * s.den) ((s.den : Int) * (d.den * d.den)) = s + d * d := by
  have p1 := hs.pos
  have p2 := hd.pos
  refine ⟨Int.mul_pos p1 (Int.mul_pos p2 p2), (hs.bb.mul (hd.bb.mul hd.bb)).up (by omega), ((hs.bt.mul (hd.bb.mul hd.bb)).add (((hd.bt.mul hd.bt).mul hs.bb).up (by omega))).up (by omega), ?_⟩
  have e1 := hs.val
  have e2 := hd.val
  have c1 := cast_ne (show (s.den : Int) ≠ 0 by omega)
  have c2 := cast_ne (show (d.den : Int) ≠ 0 by omega)
  unfold qv at *
  push_cast at *
  grind
theorem sq_lo {s d : Rat} {k : Nat} (hs : Lo k s.num s.den s) (hd : Lo 401 d.num d.den d) : Lo (k + 803) (s + d * d).num (s + d * d).den (s + d * d) := by
  obtain ⟨h0, h1, h2, h3⟩ := sq_made hs hd
  exact lo_over h0 (h1.up (by omega)) h2 h3
theorem lo_0 : Lo 1 (0 : Rat).num (0 : Rat).den 0 := lo_qf 0 (by unfold Bt; decide) (by unfold Bt; decide)
theorem d2_sum {a b : Row3} : 0 + (a.x - b.x) * (a.x - b.x) + (a.y - b.y) * (a.y - b.y) + (a.z - b.z) * (a.z - b.z) = d2 a b := by
  unfold d2 Row3.dot Row3.sub
  dsimp only
  grind
theorem cross_iff {a b c d : Rat} : (a.num * b.num) * ((c.den : Int) * d.den) = (c.num * d.num) * ((a.den : Int) * b.den) ↔ a * b = c * d := by
  have pa := a.den_pos
  have pb := b.den_pos
  have pc := c.den_pos
  have pd := d.den_pos
  have ca := cast_ne (show (a.den : Int) ≠ 0 by omega)
  have cb := cast_ne (show (b.den : Int) ≠ 0 by omega)
  have cc := cast_ne (show (c.den : Int) ≠ 0 by omega)
  have cd := cast_ne (show (d.den : Int) ≠ 0 by omega)
  have ea := qf_val a
  have eb := qf_val b
  have ec := qf_val c
  have ed := qf_val d
  unfold qv at ea eb ec ed
  push_cast at *
  constructor
  . intro h
    have h' : ((a.num : Rat) * b.num) * (c.den * d.den) = (c.num * d.num) * (a.den * b.den) := by exact_mod_cast h
    grind
  . intro h
    have h' : ((a.num : Rat) * b.num) * (c.den * d.den) = (c.num * d.num) * (a.den * b.den) := by grind
    exact_mod_cast h'
theorem cx0_iff {u v : Row3} : u.cx v = r0 ↔ u.x * v.y = u.y * v.x /\ u.y * v.z = u.z * v.y /\ u.z * v.x = u.x * v.z := by
  unfold Row3.cx r0
  constructor
  . intro h
    injection h with h1 h2 h3
    exact ⟨by grind, by grind, by grind⟩
  . intro ⟨h1, h2, h3⟩
    congr 1 <;> grind
end
theorem E.frzC {p : Option Addr} {K : PySem.W.Frag} {τ : List Sl} {te : TE} {C : List Dat -> Prop} (h : E p K te τ (fun s => ∃ es, s = .own es /\ C es)) : E p K te τ (fun s => ∃ d, s = .dat d /\ ∃ es, d = .list es /\ C es) := fun W L σ H Q r o q => h W L σ H Q r o fun v H' s ⟨es, e, c⟩ ev o' rv => by
  subst e
  obtain ⟨a, vs, rfl, h1, h2, h3⟩ := rv
  exact q _ H' _ ⟨_, rfl, es, rfl, c⟩ ev o' (.lst (.inl ⟨o.fresh h1, .inl h2⟩) h3)
theorem kq_no {i j : Int} : PySem.W.kqdOk 9 (noD i j) = true := by
  show ([.str "none", .int i, .int j] : List Dat).all (PySem.W.kqdOk 8) = true
  have e : PySem.W.kqdOk 8 (.str "none") = true := by decide +kernel
  rw [List.all_cons, e]
  rfl
theorem kq_on {w x y z : Int} {u v t : Rat} : PySem.W.kqdOk 9 (onD w x y z u v t) = true := by
  show ([.str "only", .tuple [tI [w, x, y, z], ptQ u v t]] : List Dat).all (PySem.W.kqdOk 8) = true
  have e : PySem.W.kqdOk 8 (.str "only") = true := by decide +kernel
  rw [List.all_cons, e]
  rfl
theorem led_kqd {p0 p1 p2 o0 o1 o2 : Row3} {g : Dat} (h : Led3 p0 p1 p2 o0 o1 o2 g) : PySem.W.kqdOk 9 g = true := by
  cases h
  . exact kq_no
  . exact kq_no
  . exact kq_no
  . exact kq_on
theorem ledT_a {p0 p1 p2 o0 o1 o2 : Row3} {g : Dat} (h : Led3 p0 p1 p2 o0 o1 o2 g) (n : d2 p0 p1 ≠ d2 o0 o1) : g = noD 0 1 := by
  cases h with
  | a _ => rfl
  | b k _ => exact absurd k n
  | c k _ _ => exact absurd k n
  | only k _ _ _ => exact absurd k n
theorem ledT_b {p0 p1 p2 o0 o1 o2 : Row3} {g : Dat} (h : Led3 p0 p1 p2 o0 o1 o2 g) (e : d2 p0 p1 = d2 o0 o1) (n : d2 p0 p2 ≠ d2 o0 o2) : g = noD 0 2 := by
  cases h with
  | a k => exact absurd e k
  | b _ _ => rfl
  | c _ k _ => exact absurd k n
  | only _ k _ _ => exact absurd k n
theorem ledT_c {p0 p1 p2 o0 o1 o2 : Row3} {g : Dat} (h : Led3 p0 p1 p2 o0 o1 o2 g) (e : d2 p0 p1 = d2 o0 o1) (e' : d2 p0 p2 = d2 o0 o2) (n : d2 p1 p2 ≠ d2 o1 o2) : g = noD 1 2 := by
  cases h with
  | a k => exact absurd e k
  | b _ k => exact absurd e' k
  | c _ _ _ => rfl
  | only _ _ k _ => exact absurd k n
theorem ledT_o {p0 p1 p2 o0 o1 o2 : Row3} {g : Dat} (h : Led3 p0 p1 p2 o0 o1 o2 g) (e : d2 p0 p1 = d2 o0 o1) (e' : d2 p0 p2 = d2 o0 o2) (e'' : d2 p1 p2 = d2 o1 o2) : ∃ (w x y z : Int) (u v t : Rat), g = onD w x y z u v t /\ Only p0 p1 p2 o0 o1 o2 w x y z u v t := by
  cases h with
  | a k => exact absurd e k
  | b _ k => exact absurd e' k
  | c _ _ k => exact absurd e'' k
  | only _ _ _ k => exact ⟨_, _, _, _, _, _, _, rfl, k⟩
theorem kq_mo {w x y z : Int} {u v t : Rat} : PySem.W.kqdOk 9 (.tuple [tI [w, x, y, z], ptQ u v t]) = true := rfl
theorem nr_const : Nr3 ⟨0, 0, 0⟩ ⟨1, 0, 0⟩ ⟨0, 2, 1 / 2⟩ /\ ((⟨1, 0, 0⟩ : Row3).sub ⟨0, 0, 0⟩).cx ((⟨0, 2, 1 / 2⟩ : Row3).sub ⟨0, 0, 0⟩) ≠ r0 := by
  have f0 : FB 2 96 0 := ⟨0, Nat.zero_le _, by unfold qv; push_cast; grind⟩
  have f1 : FB 2 96 1 := ⟨2, by unfold Bt; exact Nat.le_trans (show 2 <= 2 ^ 2 by decide) (Nat.pow_le_pow_right (by decide) (by decide)), by unfold qv; push_cast; grind⟩
  have f2 : FB 2 96 2 := ⟨4, by unfold Bt; exact Nat.le_trans (show 4 <= 2 ^ 2 by decide) (Nat.pow_le_pow_right (by decide) (by decide)), by unfold qv; push_cast; grind⟩
  have fh : FB 2 96 (1 / 2) := ⟨1, Nat.one_le_two_pow, by unfold qv; push_cast; grind⟩
  refine ⟨⟨2, by decide, by unfold Bt; exact Nat.le_trans (show 2 <= 2 ^ 2 by decide) (Nat.pow_le_pow_right (by decide) (by decide)), ⟨f0, f0, f0⟩, ⟨f1, f0, f0⟩, f0, f2, fh⟩, ?_⟩
  unfold Row3.sub Row3.cx r0
  dsimp only
  intro h
  injection h with _ h2 h3
  grind
theorem Nr3.lh {p0 p1 p2 : Row3} (h : Nr3 p0 p1 p2) : TabP Lh p0 p1 p2 := h.tb.lh (by decide)
end D
section
namespace K26
open PySem L2 Num K0 D
open PySem.W (Dat)
noncomputable def top (i : Nat) : Stmt := PySem.Challenge.pw_hangrings_k26_three_points_led.main.body.getD i (.Pass ⟨0, 0, 0, 0⟩)
noncomputable abbrev sCD : Stmt := top 1
noncomputable abbrev sRed : Stmt := top 2
noncomputable abbrev sNeg : Stmt := top 3
noncomputable abbrev sRowSum : Stmt := top 4
noncomputable abbrev sRDif : Stmt := top 5
noncomputable abbrev sSopL : Stmt := top 6
noncomputable abbrev sCross : Stmt := top 7
noncomputable abbrev sCM : Stmt := top 8
noncomputable abbrev sLevL : Stmt := top 9
noncomputable abbrev sDLow : Stmt := top 10
noncomputable abbrev sLAdd : Stmt := top 11
noncomputable abbrev sLNeg : Stmt := top 12
noncomputable abbrev sLvP : Stmt := top 13
noncomputable abbrev sPlain : Stmt := top 16
noncomputable abbrev sSize : Stmt := top 17
noncomputable abbrev sWT : Stmt := top 18
noncomputable abbrev sLT : Stmt := top 19
noncomputable abbrev sSizeOf : Stmt := top 21
noncomputable abbrev sTimes : Stmt := top 22
noncomputable abbrev sT3 : Stmt := top 23
noncomputable abbrev sTBw : Stmt := top 24
noncomputable abbrev sOneL : Stmt := top 27
noncomputable abbrev sLedT : Stmt := top 28
noncomputable abbrev sShiftTo : Stmt := top 29
noncomputable abbrev sMixed : Stmt := top 31
noncomputable abbrev sPurse : Stmt := top 32
noncomputable abbrev sDraw : Stmt := top 33
noncomputable abbrev sWhole : Stmt := top 35
noncomputable abbrev sDiv : Stmt := top 36
noncomputable abbrev sLPlain4 : Stmt := top 37
noncomputable abbrev sMadeN : Stmt := top 38
noncomputable abbrev sRowsp1 : Stmt := top 39
noncomputable abbrev sLTurnedp1 : Stmt := top 40
noncomputable abbrev sDIsPoint : Stmt := top 41
noncomputable abbrev sLAdded : Stmt := top 42
noncomputable abbrev sPNear : Stmt := top 43
noncomputable abbrev sSq2 : Stmt := top 44
noncomputable abbrev sOnL : Stmt := top 45
noncomputable abbrev sBent26 : Stmt := top 46
noncomputable abbrev sRight26 : Stmt := top 47
noncomputable abbrev sLaw : Stmt := top 48
noncomputable abbrev sSop : Stmt := top 6
noncomputable abbrev sDLev : Stmt := top 9
noncomputable abbrev sMade : Stmt := top 38
noncomputable abbrev sNearT : Stmt := top 43
section
variable {P : Program} {w : World} {K : PySem.W.Frag} {mg : Str -> Option Value} {base : Heap} {dPAIRS f g g2 g3 g4 g5 g6 g7 g8 g9 : Addr} {fd gd gd2 gd3 gd4 gd5 gd6 gd7 gd8 gd9 : FuncData}
theorem scCD : FnScope ["numbers", "divisor", "number", "other", "left"] ["numbers"] (defScope sCD) := ⟨rfl, rfl, rfl, by decide +kernel, rfl, by decide +kernel, by decide +kernel⟩
theorem ok_cd (F : Fun K "common_divisor" "common_divisor" sCD f fd) (ma : mg "abs" = none) : FnOk P w K mg base CX0 1 f fd ["numbers"] (spCD K) := by
  refine F.okZ scCD (fun vs H Q E h => ?_) (fun cdv A outer s H vs Q E hr h => ?_)
  . obtain ⟨a, ns, rfl, _⟩ := h; rfl
  obtain ⟨a, ns, rfl, hS, q⟩ := h
  refine ⟨_, zss_cons (zs_set (i := 1) scCD.nd rfl (Or.inl rfl) ze_int) (zss_cons (zs_for PassesOwn.never rfl (zi_tup (zv 0)) (zg_name (i := 2) scCD.nd rfl (Or.inl rfl))
      (zss_cons (zs_set (i := 3) scCD.nd rfl (Or.inl rfl) (ze_callB call_abs rfl ma (by rfl) (za_cons (zv 2) za_nil)))
        (zss_one (zs_while PassesOwn.never (zt_cmpR op_ne (zv 3) ze_int (nomark _)) (zss_cons (zs_set (i := 4) scCD.nd rfl (Or.inl rfl) (ze_op op_mod (zv 1) (zv 3)))
          (zss_cons (zs_set (i := 1) scCD.nd rfl (Or.inl rfl) (zv 3)) (zss_one (zs_set (i := 3) scCD.nd rfl (Or.inl rfl) (zv 4)))))))))
      (zss_one (zs_ret (zv 1)))), ?_⟩
  refine ⟨_, rfl, a, rfl, ⟨_, hS⟩, for_tup (xs := ns.map V.int) (fun i σ H' => H = H' /\ ∃ nn o l, σ = [some (.ref a), some (.int (gcdN (ns.take i))), nn, o, l])
    ⟨rfl, _, _, _, rfl⟩ (fun i σ H' _ h => h.1 ▸ hS) (fun i x σ H' hx h => ?_) (fun σ H' h => ?_)⟩
  . obtain ⟨rfl, nn, o, l, rfl⟩ := h
    rw [List.getElem?_map] at hx
    cases hn : ns[i]? with
    | none => rw [hn] at hx; cases hx
    | some n =>
      rw [hn] at hx
      cases hx
      refine ⟨_, rfl, n, rfl, ?_⟩
      have tk : ns.take (i + 1) = ns.take i ++ [n] := by rw [List.take_add_one, hn]; rfl
      refine while_by (fun σ H' => H = H' /\ ∃ (d o : Int) (l : Option V), 0 <= d /\ 0 <= o /\ Nat.gcd d.toNat o.toNat = gcdN (ns.take (i + 1)) /\ σ = [some (.ref a), some (.int d), some (.int n), some (.int o), l])
        (fun σ _ => match σ with | [_, _, _, some (.int o), _] => o.toNat | _ => 0) ⟨rfl, _, _, _, by omega, by split <;> omega, ?_, rfl⟩ (fun σ H' h => ?_) (fun σ H Q Q' hq h => ?_)
      . rw [tk, gcdN_snoc]
        congr 1
        split <;> omega
      . obtain ⟨rfl, d, o, l, hd, ho, hg, rfl⟩ := h
        refine ⟨_, rfl, rfl, _, rfl, ?_⟩
        refine ite2 (fun c => ?_) (fun c => ?_)
        . have hne : o ≠ 0 := by
            intro z; subst z; exact absurd c (by decide)
          refine ⟨_, rfl, _, rfl, _, _, rfl, rfl, by omega, _, rfl, _, rfl, ⟨rfl, _, _, _, ho, Int.emod_nonneg _ hne, ?_, rfl⟩, ?_⟩
          . rw [<- hg]; exact gcd_step hd (by omega)
          . show (d % o).toNat < o.toNat
            have := Int.emod_lt_of_pos d (show 0 < o by omega)
            have := Int.emod_nonneg d hne
            omega
        . have h0 : o = 0 := by
            by_cases z : o = 0
            . exact z
            . exact absurd (by show (!decide (V.int o = V.int 0)) = true; rw [decide_eq_false (fun e => z (by injection e))]; rfl) c
          subst h0
          refine ⟨rfl, some (.int n), some (.int 0), l, ?_⟩
          have e : (d.toNat : Int) = d := by omega
          rw [<- hg]
          simp only [Int.toNat_zero, Nat.gcd_zero_right, e]
      . obtain ⟨v, e1, e2, b, e3, q⟩ := h
        exact ⟨v, e1, e2, b, e3, hq _ _ q⟩
  . obtain ⟨rfl, nn, o, l, rfl⟩ := h
    rw [List.length_map, List.take_length]
    exact ⟨_, rfl, q⟩
theorem scRed : FnScope ["numbers", "divisor"] ["numbers"] (defScope sRed) := ⟨rfl, rfl, rfl, by decide +kernel, rfl, by decide +kernel, by decide +kernel⟩
theorem ok_red (F : Fun K "reduced" "reduced" sRed f fd) (G : FnOk P w K mg base CX0 1 g gd ["numbers"] (spCD K)) (bG : Binds K gd ["numbers"] []) (kG : PySem.W.keepIn K (.ref g) = true) (mG : mg "common_divisor" = some (.ref g)) (mt : mg "tuple" = none) :
    FnOk P w K mg base CX0 2 f fd ["numbers"] (spT K (fun ns => (∃ n ∈ ns, n ≠ 0) /\ Sm ns) red) := by
  refine F.okZ scRed (fun vs H Q E h => ?_) (fun cdv A outer s H vs Q E hr h => ?_)
  . obtain ⟨a, ns, rfl, _⟩ := h; rfl
  obtain ⟨a, ns, rfl, hS, hl, ⟨hnz, hsm⟩, q⟩ := h
  refine ⟨_, zss_cons (zs_set (i := 1) scRed.nd rfl (Or.inr rfl) (ze_call G hr rfl mG kG bG .nil pass0 (za_cons (zv 0) za_nil)))
    (zss_one (zs_ret (ze_callTy call_tuple_of rfl mt (by rfl) (za_cons (ze_comp (own := ["number"]) scRed rfl ⟨by decide +kernel, rfl, by decide +kernel, by decide +kernel, by decide +kernel, by decide +kernel, by decide +kernel, by decide +kernel, by decide +kernel⟩ (zi_tup (zv 0))
      (fun C fp s H nd => zg_name (i := 0) nd rfl (Or.inl rfl)) (fun C fp s H => zts_nil) (fun C fp s H => ze_op op_fdivB (zv 0) (zv 2))) za_nil)))), ?_⟩
  refine ⟨_, rfl, a, ns, rfl, hS, ?_⟩
  refine ⟨_, rfl, a, rfl, ⟨_, hS⟩, ?_⟩
  have gp := gcdN_pos hnz
  refine comp_tup (K := K) (((red ns).map PySem.W.Dat.int)) hS (by simp [red]) (by rw [List.length_map]; exact Nat.le_of_lt (small1000 hl)) (fun i x H' d hx hd hs => ?_) (fun σ' H2 Q1 Q2 hq h => ?_) (fun D H' ys hs hy hD hf => ?_)
  . rw [List.getElem?_map] at hx hd
    unfold red at hd
    rw [List.getElem?_map] at hd
    cases e : ns[i]? with
    | none => rw [e] at hx; cases hx
    | some n =>
      rw [e] at hx hd
      cases hx; cases hd
      refine ⟨_, rfl, _, rfl, n, _, rfl, rfl, ⟨by omega, gcd_small hnz hsm⟩, Same.refl _, ?_⟩
      dsimp only
      rw [Int.fdiv_eq_ediv_of_nonneg _ (by omega)]
      exact .int _
  . obtain ⟨v1, e1, v2, e2, i, j, e3, e4, e5, q⟩ := h
    exact ⟨v1, e1, v2, e2, i, j, e3, e4, e5, hq _ _ q⟩
  . refine ⟨D, ys, rfl, .inl ⟨SqL.of hy, fun l hl' => ?_⟩⟩
    refine q l _ (hs.trans (Same.new hl' _)) ?_
    rw [Fzs.ints_inv hf]
    exact upd_same
theorem scNeg : FnScope ["numbers"] ["numbers"] (defScope sNeg) := ⟨rfl, rfl, rfl, by decide +kernel, rfl, by decide +kernel, by decide +kernel⟩
theorem ok_neg (F : Fun K "negated" "negated" sNeg f fd) (mt : mg "tuple" = none) : FnOk P w K mg base CX0 1 f fd ["numbers"] (spT K (fun _ => True) (fun ns => ns.map fun n => -n)) := by
  refine F.okZ scNeg (fun vs H Q E h => ?_) (fun cdv A outer s H vs Q E hr h => ?_)
  . obtain ⟨a, ns, rfl, _⟩ := h; rfl
  obtain ⟨a, ns, rfl, hS, hl, _, q⟩ := h
  refine ⟨_, zss_one (zs_ret (ze_callTy call_tuple_of rfl mt (by rfl) (za_cons (ze_comp (own := ["number"]) scNeg rfl ⟨by decide +kernel, rfl, by decide +kernel, by decide +kernel, by decide +kernel, by decide +kernel, by decide +kernel, by decide +kernel, by decide +kernel⟩ (zi_tup (zv 0))
      (fun C fp s H nd => zg_name (i := 0) nd rfl (Or.inl rfl)) (fun C fp s H => zts_nil) (fun C fp s H => ze_un un_neg (zv 0))) za_nil))), ?_⟩
  refine ⟨_, rfl, a, rfl, ⟨_, hS⟩, ?_⟩
  refine comp_tup (K := K) ((ns.map fun n => -n).map PySem.W.Dat.int) hS (by simp) (by rw [List.length_map]; exact Nat.le_of_lt (small1000 hl)) (fun i x H' d hx hd hs => ?_) (fun σ' H2 Q1 Q2 hq h => ?_) (fun D H' ys hs hy hD hf => ?_)
  . rw [List.getElem?_map] at hx hd
    rw [List.getElem?_map] at hd
    cases e : ns[i]? with
    | none => rw [e] at hx; cases hx
    | some n =>
      rw [e] at hx hd
      cases hx; cases hd
      exact ⟨_, rfl, n, rfl, Same.refl _, .int _⟩
  . obtain ⟨v1, e1, i, e3, q⟩ := h
    exact ⟨v1, e1, i, e3, hq _ _ q⟩
  . refine ⟨D, ys, rfl, .inl ⟨SqL.of hy, fun l hl' => ?_⟩⟩
    refine q l _ (hs.trans (Same.new hl' _)) ?_
    rw [Fzs.ints_inv hf]
    exact upd_same
theorem scRowSum : FnScope ["one", "other"] ["one", "other"] (defScope sRowSum) := ⟨rfl, rfl, rfl, by decide +kernel, rfl, by decide +kernel, by decide +kernel⟩
theorem ok_rowsum (F : Fun K "row_sum" "row_sum" sRowSum f fd) (m_tuple : mg "tuple" = none) (m_zip : mg "zip" = none) :
    FnOk P w K mg base CX0 1 f fd ["one", "other"] (spP K RRsum) := by
  refine okP F scRowSum (fun ds d h => ?_) (fun cdv A0 outer s0 H0 E0 hr => ?_)
  . obtain ⟨a, b, c, e, f, g, rfl, _⟩ := h; rfl
  refine ⟨_, (zss_one (zs_ret (ze_callTy call_tuple_of rfl m_tuple (by rfl) (za_cons (ze_comp (own := ["left", "right"]) scRowSum rfl ⟨by decide +kernel, rfl, by decide +kernel, by decide +kernel, by decide +kernel, by decide +kernel, by decide +kernel, by decide +kernel, by decide +kernel⟩ (zi_zip rfl m_zip (za_n (zv 0) (za_n (zv 1) za_nil))) (fun C fp s H nd => zg_pair rfl nd rfl rfl rfl rfl) (fun C fp s H => zts_nil) (fun C fp s H => (ze_op op_add (zv 0) (zv 1)))) za_nil)))), fun ds d h => ?_⟩
  obtain ⟨a, b, c, e, f, g, rfl, rfl⟩ := h
  exact S.ret1 (s := .dat (tI [a + e, b + f, c + g])) (E1.tupleL (A1.cons (E1.vwo (E1.compZ3 (x1 := .int a) (x2 := .int b) (x3 := .int c) (y1 := .int e) (y2 := .int f) (y3 := .int g) (Wk.zip (A1.cons (E1.var rfl) (A1.cons (E1.var rfl) A1.nil)) rfl) (E1.add (E1.var rfl) (E1.var rfl)) (E1.add (E1.var rfl) (E1.var rfl)) (E1.add (E1.var rfl) (E1.var rfl)))) A1.nil)) ⟨rfl, rfl⟩
theorem scRDif : FnScope ["one", "other"] ["one", "other"] (defScope sRDif) := ⟨rfl, rfl, rfl, by decide +kernel, rfl, by decide +kernel, by decide +kernel⟩
theorem ok_rdif (F : Fun K "row_difference" "row_difference" sRDif f fd) (m_tuple : mg "tuple" = none) (m_zip : mg "zip" = none) :
    FnOk P w K mg base CX0 1 f fd ["one", "other"] (spP K RRdif) := by
  refine okP F scRDif (fun ds d h => ?_) (fun cdv A0 outer s0 H0 E0 hr => ?_)
  . obtain ⟨a, b, c, e, f, g, rfl, _⟩ := h; rfl
  refine ⟨_, (zss_one (zs_ret (ze_callTy call_tuple_of rfl m_tuple (by rfl) (za_cons (ze_comp (own := ["left", "right"]) scRDif rfl ⟨by decide +kernel, rfl, by decide +kernel, by decide +kernel, by decide +kernel, by decide +kernel, by decide +kernel, by decide +kernel, by decide +kernel⟩ (zi_zip rfl m_zip (za_n (zv 0) (za_n (zv 1) za_nil))) (fun C fp s H nd => zg_pair rfl nd rfl rfl rfl rfl) (fun C fp s H => zts_nil) (fun C fp s H => (ze_op op_sub (zv 0) (zv 1)))) za_nil)))), fun ds d h => ?_⟩
  obtain ⟨a, b, c, e, f, g, rfl, rfl⟩ := h
  exact S.ret1 (s := .dat (tI [a - e, b - f, c - g])) (E1.tupleL (A1.cons (E1.vwo (E1.compZ3 (x1 := .int a) (x2 := .int b) (x3 := .int c) (y1 := .int e) (y2 := .int f) (y3 := .int g) (e1 := .int (a - e)) (e2 := .int (b - f)) (e3 := .int (c - g)) (Wk.zip (A1.cons (E1.var rfl) (A1.cons (E1.var rfl) A1.nil)) rfl) (E1.sub (E1.var rfl) (E1.var rfl)) (E1.sub (E1.var rfl) (E1.var rfl)) (E1.sub (E1.var rfl) (E1.var rfl)))) A1.nil)) ⟨rfl, rfl⟩
theorem scCross : FnScope ["one", "other"] ["one", "other"] (defScope sCross) := ⟨rfl, rfl, rfl, by decide +kernel, rfl, by decide +kernel, by decide +kernel⟩
theorem ok_cross (F : Fun K "cross_product" "cross_product" sCross f fd) :
    FnOk P w K mg base CX0 1 f fd ["one", "other"] (spCross K) := by
  refine F.okZ scCross (fun vs H Q E h => ?_) (fun cdv A outer s H vs Q E hr h => ?_)
  . obtain ⟨x, y, a, b, c, d, e, f, rfl, _⟩ := h; rfl
  obtain ⟨x, y, a, b, c, d, e, f, rfl, hS, hT, ba, bd, q⟩ := h
  refine ⟨_, (zss_one (zs_ret (ze_tup (za_b (ze_op op_sub (ze_op op_mulB (ze_ix ix_tup (zv 0) ze_int (fun _ _ => rfl)) (ze_ix ix_tup (zv 1) ze_int (fun _ _ => rfl))) (ze_op op_mulB (ze_ix ix_tup (zv 0) ze_int (fun _ _ => rfl)) (ze_ix ix_tup (zv 1) ze_int (fun _ _ => rfl)))) (za_b (ze_op op_sub (ze_op op_mulB (ze_ix ix_tup (zv 0) ze_int (fun _ _ => rfl)) (ze_ix ix_tup (zv 1) ze_int (fun _ _ => rfl))) (ze_op op_mulB (ze_ix ix_tup (zv 0) ze_int (fun _ _ => rfl)) (ze_ix ix_tup (zv 1) ze_int (fun _ _ => rfl)))) (za_b (ze_op op_sub (ze_op op_mulB (ze_ix ix_tup (zv 0) ze_int (fun _ _ => rfl)) (ze_ix ix_tup (zv 1) ze_int (fun _ _ => rfl))) (ze_op op_mulB (ze_ix ix_tup (zv 0) ze_int (fun _ _ => rfl)) (ze_ix ix_tup (zv 1) ze_int (fun _ _ => rfl)))) za_nil)))))), ?_⟩
  have b0 : Bt a 4000 := ba a (by simp)
  have b1 : Bt b 4000 := ba b (by simp)
  have b2 : Bt c 4000 := ba c (by simp)
  have c0 : Bt d 4000 := bd d (by simp)
  have c1 : Bt e 4000 := bd e (by simp)
  have c2 : Bt f 4000 := bd f (by simp)
  refine ⟨_, rfl, x, _, _, _, rfl, rfl, hS, at31, _, rfl, y, _, _, _, rfl, rfl, hT, at32, _, _, rfl, rfl, b1.mulOk c2, _, rfl, x, _, _, _, rfl, rfl, hS, at32, _, rfl, y, _, _, _, rfl, rfl, hT, at31, _, _, rfl, rfl, b2.mulOk c1, _, _, rfl, rfl, ?_⟩
  refine ⟨_, rfl, x, _, _, _, rfl, rfl, hS, at32, _, rfl, y, _, _, _, rfl, rfl, hT, at30, _, _, rfl, rfl, b2.mulOk c0, _, rfl, x, _, _, _, rfl, rfl, hS, at30, _, rfl, y, _, _, _, rfl, rfl, hT, at32, _, _, rfl, rfl, b0.mulOk c2, _, _, rfl, rfl, ?_⟩
  refine ⟨_, rfl, x, _, _, _, rfl, rfl, hS, at30, _, rfl, y, _, _, _, rfl, rfl, hT, at31, _, _, rfl, rfl, b0.mulOk c1, _, rfl, x, _, _, _, rfl, rfl, hS, at31, _, rfl, y, _, _, _, rfl, rfl, hT, at30, _, _, rfl, rfl, b1.mulOk c0, _, _, rfl, rfl, (by show 3 <= sizeLine; decide), fun r k => ?_⟩
  exact q r _ (Same.new k _) upd_same
theorem scCM : FnScope ["numbers", "multiple", "number"] ["numbers"] (defScope sCM) := ⟨rfl, rfl, rfl, by decide +kernel, rfl, by decide +kernel, by decide +kernel⟩
theorem ok_cm (F : Fun K "common_multiple" "common_multiple" sCM f fd)
    (G : FnOk P w K mg base CX0 1 g gd ["numbers"] (spCD K)) (bG : Binds K gd ["numbers"] []) (kG : PySem.W.keepIn K (.ref g) = true) (mG : mg "common_divisor" = some (.ref g)) :
    FnOk P w K mg base CX0 2 f fd ["numbers"] (spCM K) := by
  refine F.okZ scCM (fun vs H Q E h => ?_) (fun cdv A outer s H vs Q E hr h => ?_)
  . obtain ⟨a, bs, C, rfl, _⟩ := h; rfl
  obtain ⟨a, bs, C, rfl, hS, hb, C0, bC, q⟩ := h
  have r := hr.mono (show 1 <= 1 by decide)
  refine ⟨_, (zss_cons (zs_set (i := 1) scCM.nd rfl (Or.inl rfl) ze_int)
    (zss_cons (zs_for PassesOwn.never rfl (zi_list (zv 0)) (zg_name (i := 2) scCM.nd rfl (Or.inl rfl)) (zss_one (zs_set (i := 1) scCM.nd rfl (Or.inl rfl) (ze_op op_mulB (ze_op op_fdivB (zv 1) (ze_call G r rfl mG kG bG .nil pass0 (za_t (ze_tup (za_n (zv 1) (za_n (zv 2) za_nil))) za_nil))) (zv 2)))))
    (zss_one (zs_ret (zv 1))))), ?_⟩
  refine ⟨_, rfl, a, rfl, ⟨_, hS⟩, for_list (xs := bs.map V.int) (fun i σ H' => Same H H' /\ ∃ (m : Int) (nn : Option V), σ = [some (.ref a), some (.int m), nn] /\ 0 < m /\ (∀ b ∈ bs.take i, b ∣ m) /\ m ∣ C)
    ⟨Same.refl _, 1, _, rfl, by decide, by simp, Int.one_dvd _⟩ (fun i σ H' _ h => h.1.seq hS) (fun i x σ H' hx h => ?_) (fun σ H' h => ?_)⟩
  . obtain ⟨s1, m, nn, rfl, m0, md, mC⟩ := h
    rw [List.getElem?_map] at hx
    cases hn : bs[i]? with
    | none => rw [hn] at hx; cases hx
    | some n =>
      rw [hn] at hx
      cases hx
      obtain ⟨n0, nC⟩ := hb n (List.mem_of_getElem? hn)
      obtain ⟨g0, gl, gb, p0, pm, pn, pC⟩ := cm_step m0 n0 C0 mC nC bC
      refine ⟨_, rfl, _, rfl, _, rfl, (by show 2 <= sizeLine; decide), fun t ht => ?_⟩
      have s2 := Same.new ht (.tup ([m, n].map V.int))
      refine ⟨t, [m, n], rfl, SqT.of upd_same, _, _, rfl, rfl, ⟨g0, gl⟩, ?_⟩
      refine ⟨_, rfl, _, _, rfl, rfl, gb.mulOk (bt_dvd nC C0 bC), s1.trans s2, _, _, rfl, p0, fun b hb' => ?_, pC⟩
      have tk : bs.take (i + 1) = bs.take i ++ [n] := by rw [List.take_add_one, hn]; rfl
      rw [tk] at hb'
      rcases List.mem_append.mp hb' with z | z
      . exact Int.dvd_trans (md b z) pm
      . have : b = n := by simpa using z
        rw [this]; exact pn
  . obtain ⟨s1, m, nn, rfl, m0, md, mC⟩ := h
    rw [List.length_map, List.take_length] at md
    exact ⟨_, rfl, q m _ s1 m0 md mC⟩
theorem scLevL : FnScope ["fractions", "bottom"] ["fractions"] (defScope sLevL) := ⟨rfl, rfl, rfl, by decide +kernel, rfl, by decide +kernel, by decide +kernel⟩
theorem ok_levl (F : Fun K "levelled" "levelled" sLevL f fd)
    (G : FnOk P w K mg base CX0 2 g gd ["numbers"] (spCM K)) (bG : Binds K gd ["numbers"] []) (kG : PySem.W.keepIn K (.ref g) = true) (mG : mg "common_multiple" = some (.ref g)) (m_tuple : mg "tuple" = none) :
    FnOk P w K mg base CX0 3 f fd ["fractions"] (spQ K RLevL) := by
  refine okQ F scLevL (fun ds d h => ?_) (fun cdv A0 outer s0 H0 E0 hr => ?_)
  . obtain ⟨qs, B, c, rfl, _⟩ := h; rfl
  have r := hr.mono (show 2 <= 2 by decide)
  refine ⟨_, (zss_cons (zs_set (i := 1) scLevL.nd rfl (Or.inr rfl) (ze_call G r rfl mG kG bG .nil pass0 (za_cons (ze_comp (own := ["fraction"]) scLevL rfl ⟨by decide +kernel, rfl, by decide +kernel, by decide +kernel, by decide +kernel, by decide +kernel, by decide +kernel, by decide +kernel, by decide +kernel⟩ (zi_list (zv 0)) (fun C fp s H nd => zg_name (i := 0) nd rfl (Or.inl rfl)) (fun C fp s H => zts_nil) (fun C fp s H => (ze_ix ix_tupC (zv 0) ze_int (fun _ _ => rfl)))) za_nil)))
    (zss_one (zs_ret (ze_tup (za_c (ze_callTy call_tuple_of rfl m_tuple (by rfl) (za_cons (ze_comp (own := ["fraction"]) scLevL rfl ⟨by decide +kernel, rfl, by decide +kernel, by decide +kernel, by decide +kernel, by decide +kernel, by decide +kernel, by decide +kernel, by decide +kernel⟩ (zi_list (zv 0)) (fun C fp s H nd => zg_name (i := 0) nd rfl (Or.inl rfl)) (fun C fp s H => zts_nil) (fun C fp s H => (ze_op op_mulB (ze_ix ix_tupC (zv 0) ze_int (fun _ _ => rfl)) (ze_op op_fdivB (zv 2) (ze_ix ix_tupC (zv 0) ze_int (fun _ _ => rfl)))))) za_nil)) (za_n (zv 1) za_nil)))))), fun ds C h => ?_⟩
  obtain ⟨qs, B, c, rfl, hl, B0, bB, hc, hq, rfl⟩ := h
  have hz : (qs.map fun q => tI (qf q)).length <= sizeLine := by rw [List.length_map]; exact Nat.le_trans hl (by decide)
  refine S.letC (EI.cCM (bs := qs.map fun q => (q.den : Int)) (C := B) (A1.cons (E1.vwo (E1.to (s' := .own ((qs.map fun q => (q.den : Int)).map .int)) (E1.compM (f := sndD) (Wk.lst (E1.var rfl)) (fun dd hd => ?_) hz) (by rw [List.map_map, List.map_map]; rfl))) A1.nil) ?_ B0 (bB.up (by omega))) (fun s ⟨_, e, _⟩ => by rw [e]; rfl) fun s ⟨L, e, L0, Ld, LC⟩ => ?_
  . obtain ⟨q, hm, rfl⟩ := List.mem_map.mp hd
    rw [snd_qf]
    exact (E1.ixT (E1.var rfl) E1.int rfl)
  . intro b hb
    obtain ⟨q, hm, rfl⟩ := List.mem_map.mp hb
    exact ⟨by have := q.den_pos; omega, (hq q hm).den B0⟩
  subst e
  have bL : Bt L 2900 := (bt_dvd LC B0 bB).up hc
  refine S.ret1 (s := .dat (.tuple [tI (qs.map (topL L)), .int L])) (E1.tu (A1.cons (E1.tupleL (A1.cons (E1.vwo (E1.to (s' := .own ((qs.map (topL L)).map .int)) (E1.compM (f := topD L) (Wk.lst (E1.var rfl)) (fun dd hd => ?_) hz) (by rw [List.map_map, List.map_map]; rfl))) A1.nil)) (A1.cons (E1.var rfl) A1.nil)) rfl (lsz (n := 2) rfl z2)) ⟨_, ⟨L, rfl, L0, LC, fun q hm => Ld _ (List.mem_map.mpr ⟨q, hm, rfl⟩)⟩, rfl, levn_nl⟩
  obtain ⟨q, hm, rfl⟩ := List.mem_map.mp hd
  rw [top_qf]
  have dq : (q.den : Int) ∣ L := Ld _ (List.mem_map.mpr ⟨q, hm, rfl⟩)
  have q0 : 0 < (q.den : Int) := by have := q.den_pos; omega
  have lp := lev_part q0 L0 dq (bL.up (by decide))
  rw [Int.fdiv_eq_ediv_of_dvd dq] at lp
  have lq := (hq q hm)
  have nq : Bt q.num 2900 := ((lo_over B0 (bB.up hc) (lq.choose_spec.1.up hc) lq.choose_spec.2)).bt
  exact E1.mul (E1.ixT (E1.var rfl) E1.int rfl) (E1.to (E1.fdiv (i := L) (j := (q.den : Int)) (E1.var rfl) (E1.ixT (E1.var rfl) E1.int rfl) ⟨by omega, (bt_dvd dq L0 bL).log (by omega)⟩) (by rw [Int.fdiv_eq_ediv_of_dvd dq])) (nq.mulOk lp.2)
theorem scDLow : FnScope ["level"] ["level"] (defScope sDLow) := ⟨rfl, rfl, rfl, by decide +kernel, rfl, by decide +kernel, by decide +kernel⟩
theorem ok_dlow (F : Fun K "lowered" "lowered" sDLow f fd)
    (G : FnOk P w K mg base CX0 2 g gd ["numbers"] (spT K (fun ns => (∃ n ∈ ns, n ≠ 0) /\ Sm ns) red)) (bG : Binds K gd ["numbers"] []) (kG : PySem.W.keepIn K (.ref g) = true) (mG : mg "reduced" = some (.ref g)) (m_tuple : mg "tuple" = none) :
    FnOk P w K mg base CX0 3 f fd ["level"] (spP K RLow) := by
  refine okP F scDLow (fun ds d h => ?_) (fun cdv A0 outer s0 H0 E0 hr => ?_)
  . obtain ⟨c, T1, T2, T3, C, x, y, z, rfl, _⟩ := h; rfl
  have r := hr.mono (show 2 <= 2 by decide)
  refine ⟨_, (zss_one (zs_ret (ze_callTy call_tuple_of rfl m_tuple (by rfl) (za_cons (ze_comp (own := ["top"]) scDLow rfl ⟨by decide +kernel, rfl, by decide +kernel, by decide +kernel, by decide +kernel, by decide +kernel, by decide +kernel, by decide +kernel, by decide +kernel⟩ (zi_tup (ze_ix ix_tup (zv 0) ze_int (fun _ _ => rfl))) (fun C fp s H nd => zg_name (i := 0) nd rfl (Or.inl rfl)) (fun C fp s H => zts_nil) (fun C fp s H => (ze_call G r rfl mG kG bG .nil pass0 (za_t (ze_tup (za_n (zv 0) (za_s (ze_ix ix_tupC (zv 1) ze_int (fun _ _ => rfl)) za_nil))) za_nil)))) za_nil)))), fun ds d h => ?_⟩
  obtain ⟨c, T1, T2, T3, C, x, y, z, rfl, lb, hc, rfl⟩ := h
  have sm : ∀ {T : Int}, Bt T c -> (∃ n ∈ [T, C], n ≠ 0) /\ Sm [T, C] := fun h => ⟨⟨C, by simp, by have := lb.pos; omega⟩, sm2 h lb.bc (by omega)⟩
  have fr1 : red [T1, C] = qf x := by rw [show red [T1, C] = fr T1 C from rfl, fr_qf lb.pos, lb.e1]
  have fr2 : red [T2, C] = qf y := by rw [show red [T2, C] = fr T2 C from rfl, fr_qf lb.pos, lb.e2]
  have fr3 : red [T3, C] = qf z := by rw [show red [T3, C] = fr T3 C from rfl, fr_qf lb.pos, lb.e3]
  refine S.ret1 (s := .dat (ptQ x y z)) ?_ ⟨rfl, rfl⟩
  unfold ptQ ptD
  refine E1.tupleL (A1.cons (E1.vwo (E1.comp3 (d1 := .int T1) (d2 := .int T2) (d3 := .int T3) (Wk.tup (E1.ixT (E1.var rfl) E1.int rfl)) (E1.to (E1.cT (ns := [T1, C]) (by (repeat' (first | exact E1.var rfl | exact E1.int | exact A1.nil | apply A1.cons | apply E1.sub | apply E1.pow | apply E1.ixT | apply E1.tu | apply E1.li | rfl | exact lsz (n := 2) rfl z2 | exact lsz (n := 3) rfl z3 | exact lsz (n := 4) rfl z4 | exact cpow10 (by decide) (by decide)))) (by show 2 <= 1000; decide) (sm lb.b1)) (by rw [fr1])) (E1.to (E1.cT (ns := [T2, C]) (by (repeat' (first | exact E1.var rfl | exact E1.int | exact A1.nil | apply A1.cons | apply E1.sub | apply E1.pow | apply E1.ixT | apply E1.tu | apply E1.li | rfl | exact lsz (n := 2) rfl z2 | exact lsz (n := 3) rfl z3 | exact lsz (n := 4) rfl z4 | exact cpow10 (by decide) (by decide)))) (by show 2 <= 1000; decide) (sm lb.b2)) (by rw [fr2])) (E1.to (E1.cT (ns := [T3, C]) (by (repeat' (first | exact E1.var rfl | exact E1.int | exact A1.nil | apply A1.cons | apply E1.sub | apply E1.pow | apply E1.ixT | apply E1.tu | apply E1.li | rfl | exact lsz (n := 2) rfl z2 | exact lsz (n := 3) rfl z3 | exact lsz (n := 4) rfl z4 | exact cpow10 (by decide) (by decide)))) (by show 2 <= 1000; decide) (sm lb.b3)) (by rw [fr3])))) A1.nil)
theorem scLAdd : FnScope ["one", "other", "tops"] ["one", "other"] (defScope sLAdd) := ⟨rfl, rfl, rfl, by decide +kernel, rfl, by decide +kernel, by decide +kernel⟩
theorem ok_ladd (F : Fun K "levels_added" "levels_added" sLAdd f fd) (m_tuple : mg "tuple" = none) (m_zip : mg "zip" = none) :
    FnOk P w K mg base CX0 1 f fd ["one", "other"] (spP K RLAdd) := by
  refine okP F scLAdd (fun ds d h => ?_) (fun cdv A0 outer s0 H0 E0 hr => ?_)
  . obtain ⟨c, T1, T2, T3, C, S1, S2, S3, B, x, y, z, u, v, w, rfl, _⟩ := h; rfl
  refine ⟨_, (zss_cons (zs_set (i := 2) scLAdd.nd rfl (Or.inl rfl) (ze_callTy call_tuple_of rfl m_tuple (by rfl) (za_cons (ze_comp (own := ["left", "right"]) scLAdd rfl ⟨by decide +kernel, rfl, by decide +kernel, by decide +kernel, by decide +kernel, by decide +kernel, by decide +kernel, by decide +kernel, by decide +kernel⟩ (zi_zip rfl m_zip (za_s (ze_ix ix_tup (zv 0) ze_int (fun _ _ => rfl)) (za_s (ze_ix ix_tup (zv 1) ze_int (fun _ _ => rfl)) za_nil))) (fun C fp s H nd => zg_pair rfl nd rfl rfl rfl rfl) (fun C fp s H => zts_nil) (fun C fp s H => (ze_op op_add (ze_op op_mulB (zv 0) (ze_ix ix_tupC (zv 3) ze_int (fun _ _ => rfl))) (ze_op op_mulB (zv 1) (ze_ix ix_tupC (zv 2) ze_int (fun _ _ => rfl)))))) za_nil)))
    (zss_one (zs_ret (ze_tup (za_n (zv 2) (za_b (ze_op op_mulB (ze_ix ix_tup (zv 0) ze_int (fun _ _ => rfl)) (ze_ix ix_tup (zv 1) ze_int (fun _ _ => rfl))) za_nil)))))), fun ds d h => ?_⟩
  obtain ⟨c, T1, T2, T3, C, S1, S2, S3, B, x, y, z, u, v, w, rfl, h, g, hc, rfl⟩ := h
  have mo : ∀ {a b : Int}, Bt a c -> Bt b c -> IntMulOk a b := fun ha hb => (ha.up hc).mulOk (hb.up hc)
  have one : ∀ {T S : Int}, Bt T c -> Bt S c -> E1 none K (tOp (rI0 fun i j => .int (i + j)) (tOp (rI IntMulOk fun i j => .int (i * j)) (tVar 0) (tOp (rIxT K) (tVar 3) (tC (.int 1)))) (tOp (rI IntMulOk fun i j => .int (i * j)) (tVar 1) (tOp (rIxT K) (tVar 2) (tC (.int 1))))) [.dat (.int T), .dat (.int S), .dat (lvD T1 T2 T3 C), .dat (lvD S1 S2 S3 B), .un] (.dat (.int (T * B + S * C))) := fun hT hS =>
    E1.add (E1.mul (E1.var rfl) (E1.ixT (E1.var rfl) E1.int rfl) (mo hT g.bc)) (E1.mul (E1.var rfl) (E1.ixT (E1.var rfl) E1.int rfl) (mo hS h.bc))
  refine S.let1 (s := .dat (tI [T1 * B + S1 * C, T2 * B + S2 * C, T3 * B + S3 * C])) (E1.tupleL (A1.cons (E1.vwo (E1.compZ3 (x1 := .int T1) (x2 := .int T2) (x3 := .int T3) (y1 := .int S1) (y2 := .int S2) (y3 := .int S3) (Wk.zip (A1.cons (E1.ixT (E1.var rfl) E1.int rfl) (A1.cons (E1.ixT (E1.var rfl) E1.int rfl) A1.nil)) rfl) (one h.b1 g.b1) (one h.b2 g.b2) (one h.b3 g.b3))) A1.nil)) ?_
  refine S.ret1 (s := .dat (lvD (T1 * B + S1 * C) (T2 * B + S2 * C) (T3 * B + S3 * C) (C * B))) ?_ ⟨rfl, rfl⟩
  exact E1.tu (A1.cons (E1.var rfl) (A1.cons (E1.mul (E1.ixT (E1.var rfl) E1.int rfl) (E1.ixT (E1.var rfl) E1.int rfl) (mo h.bc g.bc)) A1.nil)) rfl (lsz (n := 2) rfl z2)
theorem scLNeg : FnScope ["level"] ["level"] (defScope sLNeg) := ⟨rfl, rfl, rfl, by decide +kernel, rfl, by decide +kernel, by decide +kernel⟩
theorem ok_lneg (F : Fun K "level_negated" "level_negated" sLNeg f fd)
    (G : FnOk P w K mg base CX0 1 g gd ["numbers"] (spT K (fun _ => True) (fun ns => ns.map fun n => -n))) (bG : Binds K gd ["numbers"] []) (kG : PySem.W.keepIn K (.ref g) = true) (mG : mg "negated" = some (.ref g)) :
    FnOk P w K mg base CX0 2 f fd ["level"] (spP K RLNeg) := by
  refine okP F scLNeg (fun ds d h => ?_) (fun cdv A0 outer s0 H0 E0 hr => ?_)
  . obtain ⟨T1, T2, T3, C, rfl, _⟩ := h; rfl
  have r := hr.mono (show 1 <= 1 by decide)
  refine ⟨_, (zss_one (zs_ret (ze_tup (za_c (ze_call G r rfl mG kG bG .nil pass0 (za_s (ze_ix ix_tup (zv 0) ze_int (fun _ _ => rfl)) za_nil)) (za_s (ze_ix ix_tup (zv 0) ze_int (fun _ _ => rfl)) za_nil))))), fun ds d h => ?_⟩
  obtain ⟨T1, T2, T3, C, rfl, rfl⟩ := h
  refine S.ret1 (s := .dat (lvD (-T1) (-T2) (-T3) C)) ?_ ⟨rfl, rfl⟩
  exact E1.tu (A1.cons (E1.cT (ns := [T1, T2, T3]) (A1.cons (E1.ixT (E1.var rfl) E1.int rfl) A1.nil) (by show 3 <= 1000; decide) trivial) (A1.cons (E1.ixT (E1.var rfl) E1.int rfl) A1.nil)) rfl (lsz (n := 2) rfl z2)
theorem scLvP : FnScope ["points", "fractions", "point", "level", "rows"] ["points"] (defScope sLvP) := ⟨rfl, rfl, rfl, by decide +kernel, rfl, by decide +kernel, by decide +kernel⟩
theorem ok_lvp (F : Fun K "levelled_points" "levelled_points" sLvP f fd)
    (G : FnOk P w K mg base CX0 3 g gd ["fractions"] (spQ K RLevL)) (bG : Binds K gd ["fractions"] []) (kG : PySem.W.keepIn K (.ref g) = true) (mG : mg "levelled" = some (.ref g)) (m_range : mg "range" = none) (m_len : mg "len" = none) :
    FnOk P w K mg base CX0 4 f fd ["points"] (spX K RLvP) := by
  refine okX F scLvP (fun ds d h => ?_) (fun cdv A0 outer s0 H0 E0 hr => ?_)
  . obtain ⟨b, a1, a2, a3, B, c, rfl, _⟩ := h; rfl
  have r := hr.mono (show 3 <= 3 by decide)
  refine ⟨_, (zss_cons (zs_set (i := 1) scLvP.nd rfl (Or.inl rfl) (ze_lst za_nil))
    (zss_cons (zs_for PassesOwn.never rfl (zi_or (zi_tup (zv 0)) (zi_list (zv 0))) (zg_name (i := 2) scLvP.nd rfl (Or.inl rfl)) (zss_one (zs_expr (ze_extendT (zv 1) (zv 2)))))
    (zss_cons (zs_set (i := 3) scLvP.nd rfl (Or.inr rfl) (ze_call G r rfl mG kG bG .nil pass0 (za_n (zv 1) za_nil)))
    (zss_cons (zs_comp (i := 4) (own := ["place"]) scLvP rfl ⟨by decide +kernel, rfl, by decide +kernel, by decide +kernel, by decide +kernel, by decide +kernel, by decide +kernel, by decide +kernel, by decide +kernel⟩ (zi_range093 rfl m_range (za_i (za_c (ze_callB call_len_seq rfl m_len PySem.boot_len (za_n (zv 1) za_nil)) (za_i za_nil)))) (fun C fp s H nd => zg_name (i := 0) nd rfl (Or.inl rfl)) (fun C fp s H => zts_nil) (fun C fp s H => (ze_slice sl_tupC (ze_ix ix_tupC (zv 4) ze_int (fun _ _ => rfl)) (zo_some (zv 0)) (zo_some (ze_op op_add (zv 0) ze_int)))) scLvP.nd rfl (Or.inl rfl) rfl)
    (zss_one (zs_ret (ze_tup (za_n (zv 4) (za_s (ze_ix ix_tup (zv 3) ze_int (fun _ _ => rfl)) za_nil))))))))), fun ds C h => ?_⟩
  obtain ⟨b, a1, a2, a3, B, c, rfl, B0, bB, hc, ht, rfl⟩ := h
  have hq : ∀ q ∈ [a1.x, a1.y, a1.z, a2.x, a2.y, a2.z, a3.x, a3.y, a3.z], FB B c q := tab_mem ht
  refine S.letO (ds := []) (E1.li A1.nil rfl (lsz (n := 0) rfl z0)) rfl ?_
  refine S.seq (M := fun τ' => ∃ o2 : Sl, τ' = [.dat (sqD b [a1.d, a2.d, a3.d]), .own [tI (qf a1.x), tI (qf a1.y), tI (qf a1.z), tI (qf a2.x), tI (qf a2.y), tI (qf a2.z), tI (qf a3.x), tI (qf a3.y), tI (qf a3.z)], o2, .un, .un]) ?_ fun τ' ⟨o2, eτ⟩ => ?_
  . refine S.for (ds := [a1.d, a2.d, a3.d]) (wk_sq (E1.var rfl)) (fun k τ' => ∃ o2 : Sl, τ' = [.dat (sqD b [a1.d, a2.d, a3.d]), .own ([tI (qf a1.x), tI (qf a1.y), tI (qf a1.z), tI (qf a2.x), tI (qf a2.y), tI (qf a2.z), tI (qf a3.x), tI (qf a3.y), tI (qf a3.z)].take (3 * k)), o2, .un, .un]) ⟨_, rfl⟩ (fun k dd τ1 hd ⟨o2, e1⟩ => ?_) (fun τ1 h => h)
    subst e1
    rcases get3 hd with ⟨rfl, rfl⟩ | ⟨rfl, rfl⟩ | ⟨rfl, rfl⟩
    . refine ⟨_, Gd.name rfl, ?_⟩
      exact S.extendT (i := 1) (ds := []) (es := [tI (qf a1.x), tI (qf a1.y), tI (qf a1.z)]) rfl (E1.var rfl) (show 3 <= sizeLine by decide) ⟨_, rfl⟩
    . refine ⟨_, Gd.name rfl, ?_⟩
      exact S.extendT (i := 1) (ds := [tI (qf a1.x), tI (qf a1.y), tI (qf a1.z)]) (es := [tI (qf a2.x), tI (qf a2.y), tI (qf a2.z)]) rfl (E1.var rfl) (show 6 <= sizeLine by decide) ⟨_, rfl⟩
    . refine ⟨_, Gd.name rfl, ?_⟩
      exact S.extendT (i := 1) (ds := [tI (qf a1.x), tI (qf a1.y), tI (qf a1.z), tI (qf a2.x), tI (qf a2.y), tI (qf a2.z)]) (es := [tI (qf a3.x), tI (qf a3.y), tI (qf a3.z)]) rfl (E1.var rfl) (show 9 <= sizeLine by decide) ⟨_, rfl⟩
  subst eτ
  refine S.frz (i := 1) (ds := [tI (qf a1.x), tI (qf a1.y), tI (qf a1.z), tI (qf a2.x), tI (qf a2.y), tI (qf a2.z), tI (qf a3.x), tI (qf a3.y), tI (qf a3.z)]) rfl ?_
  refine S.letC (E.callQ (R := RLevL) (ds := [.list ([a1.x, a1.y, a1.z, a2.x, a2.y, a2.z, a3.x, a3.y, a3.z].map fun q => tI (qf q))]) (A1.cons (E1.var rfl) A1.nil) ⟨[a1.x, a1.y, a1.z, a2.x, a2.y, a2.z, a3.x, a3.y, a3.z], B, c, rfl, (show 9 <= 100 by decide), B0, bB, hc, hq, rfl⟩) (fun s ⟨_, e, _⟩ => by rw [e]; rfl) fun s ⟨g, es, L, eg, L0, LB, Ld⟩ => ?_
  subst es eg
  refine S.let1 (s := .dat (.list [tI (topR L a1), tI (topR L a2), tI (topR L a3)])) (E1.frz (E1.comp3 (e1 := tI (topR L a1)) (e2 := tI (topR L a2)) (e3 := tI (topR L a3)) (Wk.rng093 (A1.cons E1.int (A1.cons (E1.lenL (ds := [tI (qf a1.x), tI (qf a1.y), tI (qf a1.z), tI (qf a2.x), tI (qf a2.y), tI (qf a2.z), tI (qf a3.x), tI (qf a3.y), tI (qf a3.z)]) (A1.cons (E1.varL rfl) A1.nil)) (A1.cons E1.int A1.nil)))) (E1.to (E1.slT (ds := ([a1.x, a1.y, a1.z, a2.x, a2.y, a2.z, a3.x, a3.y, a3.z].map (topL L)).map .int) (lo := some 0) (hi := some (0 + 3)) (E1.ixT (d := tI ([a1.x, a1.y, a1.z, a2.x, a2.y, a2.z, a3.x, a3.y, a3.z].map (topL L))) (E1.var rfl) E1.int rfl) (O1.some (E1.var rfl)) (O1.some (E1.add (E1.var rfl) E1.int)) (show ¬ (HT.sIx 9 0 (some 0) = 0 /\ HT.sIx 9 9 (some (0 + 3)) = 9) by decide)) rfl) (E1.to (E1.slT (ds := ([a1.x, a1.y, a1.z, a2.x, a2.y, a2.z, a3.x, a3.y, a3.z].map (topL L)).map .int) (lo := some 3) (hi := some (3 + 3)) (E1.ixT (d := tI ([a1.x, a1.y, a1.z, a2.x, a2.y, a2.z, a3.x, a3.y, a3.z].map (topL L))) (E1.var rfl) E1.int rfl) (O1.some (E1.var rfl)) (O1.some (E1.add (E1.var rfl) E1.int)) (show ¬ (HT.sIx 9 0 (some 3) = 0 /\ HT.sIx 9 9 (some (3 + 3)) = 9) by decide)) rfl) (E1.to (E1.slT (ds := ([a1.x, a1.y, a1.z, a2.x, a2.y, a2.z, a3.x, a3.y, a3.z].map (topL L)).map .int) (lo := some 6) (hi := some (6 + 3)) (E1.ixT (d := tI ([a1.x, a1.y, a1.z, a2.x, a2.y, a2.z, a3.x, a3.y, a3.z].map (topL L))) (E1.var rfl) E1.int rfl) (O1.some (E1.var rfl)) (O1.some (E1.add (E1.var rfl) E1.int)) (show ¬ (HT.sIx 9 0 (some 6) = 0 /\ HT.sIx 9 9 (some (6 + 3)) = 9) by decide)) rfl))) ?_
  exact S.ret1 (s := .dat (.tuple [.list [tI (topR L a1), tI (topR L a2), tI (topR L a3)], .int L])) (E1.tu (A1.cons (E1.var rfl) (A1.cons (E1.ixT (E1.var rfl) E1.int rfl) A1.nil)) rfl (lsz (n := 2) rfl z2)) ⟨_, ⟨L, rfl, L0, LB, Ld⟩, rfl⟩
theorem scPlain : FnScope ["four", "lowest"] ["four"] (defScope sPlain) := ⟨rfl, rfl, rfl, by decide +kernel, rfl, by decide +kernel, by decide +kernel⟩
theorem ok_plain (F : Fun K "plain" "plain" sPlain f fd) (G : FnOk P w K mg base CX0 2 g gd ["numbers"] (spT K (fun ns => (∃ n ∈ ns, n ≠ 0) /\ Sm ns) red)) (bG : Binds K gd ["numbers"] []) (kG : PySem.W.keepIn K (.ref g) = true) (mG : mg "reduced" = some (.ref g))
    (G2 : FnOk P w K mg base CX0 1 g2 gd2 ["numbers"] (spT K (fun _ => True) (fun ns => ns.map fun n => -n))) (bG2 : Binds K gd2 ["numbers"] []) (kG2 : PySem.W.keepIn K (.ref g2) = true) (mG2 : mg "negated" = some (.ref g2)) :
    FnOk P w K mg base CX0 3 f fd ["four"] (spT K PlainPre pl) := by
  refine F.okZ scPlain (fun vs H Q E h => ?_) (fun cdv A outer s H vs Q E hr h => ?_)
  . obtain ⟨a, ns, rfl, _⟩ := h; rfl
  obtain ⟨a, ns, rfl, hS, hl, ⟨h4, hnz, hsm⟩, q⟩ := h
  refine ⟨_, zss_cons (zs_set (i := 1) scPlain.nd rfl (Or.inl rfl) (ze_call G hr rfl mG kG bG .nil pass0 (za_cons (zv 0) za_nil)))
    (zss_cons (zs_if (zt_cmpR (op_ltT hr.units0) (zv 1) (ze_tup (za_cons ze_int (za_cons ze_int (za_cons ze_int (za_cons ze_int za_nil))))) (nomark _)) (zss_one (zs_ret (ze_call G2 (hr.mono (by decide)) rfl mG2 kG2 bG2 .nil pass0 (za_cons (zv 1) za_nil)))) zss_nil)
    (zss_one (zs_ret (zv 1)))), ?_⟩
  refine ⟨_, rfl, a, ns, rfl, hS, hl, ⟨hnz, hsm⟩, fun r H1 s1 h1 => ?_⟩
  refine ⟨_, rfl, (by show 4 <= sizeLine; decide), fun p hp => ?_⟩
  have s2 : Same H1 (upd H1 p (.tup [.int 0, .int 0, .int 0, .int 0])) := Same.new hp _
  refine ⟨r, p, red ns, [0, 0, 0, 0], rfl, rfl, SqT.of (s2 _ _ h1), SqT.of upd_same, _, rfl, ?_⟩
  have hl4 : (red ns).length = 4 := by unfold red; rw [List.length_map]; exact h4
  have lx : HT.lexLt (red ns) [0, 0, 0, 0] = decide (fst0 (red ns) < 0) := lex_fst0 (n := 4) hl4
  rw [lx]
  have pe := plain_eq hnz
  refine ite2 (fun c => ?_) (fun c => ?_)
  . rw [if_pos (of_decide_eq_true c)] at pe
    refine ⟨_, rfl, r, red ns, rfl, SqT.of (s2 _ _ h1), by omega, trivial, fun r2 H2 s3 h2 => ?_⟩
    exact q r2 H2 (s1.trans (s2.trans s3)) (by rw [<- pe]; exact h2)
  . rw [if_neg (fun z => c (decide_eq_true z))] at pe
    exact ⟨_, rfl, q r _ (s1.trans s2) (by rw [<- pe]; exact s2 _ _ h1)⟩
theorem scSize : FnScope ["four"] ["four"] (defScope sSize) := ⟨rfl, rfl, rfl, by decide +kernel, rfl, by decide +kernel, by decide +kernel⟩
theorem ok_size (F : Fun K "size" "size" sSize f fd) (G : FnOk P w K mg base CX0 1 g gd ["one", "other"] (spSop K)) (bG : Binds K gd ["one", "other"] []) (kG : PySem.W.keepIn K (.ref g) = true) (mG : mg "sum_of_products" = some (.ref g)) : FnOk P w K mg base CX0 2 f fd ["four"] (spSize K) := by
  refine F.okZ scSize (fun vs H Q E h => ?_) (fun cdv A outer s H vs Q E hr h => ?_)
  . obtain ⟨a, ns, rfl, _⟩ := h; rfl
  obtain ⟨a, ns, rfl, hS, hl, sm, q⟩ := h
  refine ⟨_, zss_one (zs_ret (ze_call G hr rfl mG kG bG .nil pass0 (za_cons (zv 0) (za_cons (zv 0) za_nil)))), ?_⟩
  exact ⟨_, rfl, _, rfl, a, a, ns, ns, rfl, hS, hS, hl, rfl, sm, sm, q⟩
theorem scWT : FnScope ["four", "w", "x", "y", "z"] ["four"] (defScope sWT) := ⟨rfl, rfl, rfl, by decide +kernel, rfl, by decide +kernel, by decide +kernel⟩
theorem ok_wt (F : Fun K "whole_table" "whole_table" sWT f fd) :
    FnOk P w K mg base CX0 1 f fd ["four"] (spWT K) := by
  refine F.okZ scWT (fun vs H Q E h => ?_) (fun cdv A outer s H vs Q E hr h => ?_)
  . obtain ⟨x, a, b, c, d, rfl, _⟩ := h; rfl
  obtain ⟨x, a, b, c, d, rfl, hS, hB, q⟩ := h
  refine ⟨_, (zss_cons (zs_set (i := 1) scWT.nd rfl (Or.inl rfl) (ze_ix ix_tup (zv 0) ze_int (fun _ _ => rfl)) sw_sub)
    (zss_cons (zs_set (i := 2) scWT.nd rfl (Or.inl rfl) (ze_ix ix_tup (zv 0) ze_int (fun _ _ => rfl)) sw_sub)
    (zss_cons (zs_set (i := 3) scWT.nd rfl (Or.inl rfl) (ze_ix ix_tup (zv 0) ze_int (fun _ _ => rfl)) sw_sub)
    (zss_cons (zs_set (i := 4) scWT.nd rfl (Or.inl rfl) (ze_ix ix_tup (zv 0) ze_int (fun _ _ => rfl)) sw_sub)
    (zss_one (zs_ret (ze_tup (za_t (ze_tup (za_b (ze_op op_sub (ze_op op_sub (ze_op op_add (ze_op op_mulB (zv 1) (zv 1)) (ze_op op_mulB (zv 2) (zv 2))) (ze_op op_mulB (zv 3) (zv 3))) (ze_op op_mulB (zv 4) (zv 4))) (za_b (ze_op op_mulB ze_int (ze_op op_sub (ze_op op_mulB (zv 2) (zv 3)) (ze_op op_mulB (zv 1) (zv 4)))) (za_b (ze_op op_mulB ze_int (ze_op op_add (ze_op op_mulB (zv 2) (zv 4)) (ze_op op_mulB (zv 1) (zv 3)))) za_nil)))) (za_t (ze_tup (za_b (ze_op op_mulB ze_int (ze_op op_add (ze_op op_mulB (zv 2) (zv 3)) (ze_op op_mulB (zv 1) (zv 4)))) (za_b (ze_op op_sub (ze_op op_add (ze_op op_sub (ze_op op_mulB (zv 1) (zv 1)) (ze_op op_mulB (zv 2) (zv 2))) (ze_op op_mulB (zv 3) (zv 3))) (ze_op op_mulB (zv 4) (zv 4))) (za_b (ze_op op_mulB ze_int (ze_op op_sub (ze_op op_mulB (zv 3) (zv 4)) (ze_op op_mulB (zv 1) (zv 2)))) za_nil)))) (za_t (ze_tup (za_b (ze_op op_mulB ze_int (ze_op op_sub (ze_op op_mulB (zv 2) (zv 4)) (ze_op op_mulB (zv 1) (zv 3)))) (za_b (ze_op op_mulB ze_int (ze_op op_add (ze_op op_mulB (zv 3) (zv 4)) (ze_op op_mulB (zv 1) (zv 2)))) (za_b (ze_op op_add (ze_op op_sub (ze_op op_sub (ze_op op_mulB (zv 1) (zv 1)) (ze_op op_mulB (zv 2) (zv 2))) (ze_op op_mulB (zv 3) (zv 3))) (ze_op op_mulB (zv 4) (zv 4))) za_nil)))) za_nil)))))))))), ?_⟩
  have ha : Bt a 1000 := hB a (by simp)
  have hb : Bt b 1000 := hB b (by simp)
  have hc : Bt c 1000 := hB c (by simp)
  have hd : Bt d 1000 := hB d (by simp)
  refine ⟨_, rfl, x, _, _, _, rfl, rfl, hS, at40, ?_⟩
  refine ⟨_, rfl, x, _, _, _, rfl, rfl, hS, at41, ?_⟩
  refine ⟨_, rfl, x, _, _, _, rfl, rfl, hS, at42, ?_⟩
  refine ⟨_, rfl, x, _, _, _, rfl, rfl, hS, at43, ?_⟩
  dsimp only [gName]
  show tRet _ _ [some (.ref x), some (.int a), some (.int b), some (.int c), some (.int d)] _
  refine ⟨_, rfl, _, rfl, _, _, rfl, rfl, ha.mulOk ha, _, rfl, _, rfl, _, _, rfl, rfl, hb.mulOk hb, _, _, rfl, rfl, _, rfl, _, rfl, _, _, rfl, rfl, hc.mulOk hc, _, _, rfl, rfl, _, rfl, _, rfl, _, _, rfl, rfl, hd.mulOk hd, _, _, rfl, rfl, _, rfl, _, rfl, _, _, rfl, rfl, hb.mulOk hc, _, rfl, _, rfl, _, _, rfl, rfl, ha.mulOk hd, _, _, rfl, rfl, _, _, rfl, rfl, two1.mulOk ((hb.mul hc).sub (ha.mul hd)), _, rfl, _, rfl, _, _, rfl, rfl, hb.mulOk hd, _, rfl, _, rfl, _, _, rfl, rfl, ha.mulOk hc, _, _, rfl, rfl, _, _, rfl, rfl, two1.mulOk ((hb.mul hd).add (ha.mul hc)), (by show 3 <= sizeLine; decide), fun p1 e1 => ?_⟩
  refine ⟨_, rfl, _, rfl, _, _, rfl, rfl, hb.mulOk hc, _, rfl, _, rfl, _, _, rfl, rfl, ha.mulOk hd, _, _, rfl, rfl, _, _, rfl, rfl, two1.mulOk ((hb.mul hc).add (ha.mul hd)), _, rfl, _, rfl, _, _, rfl, rfl, ha.mulOk ha, _, rfl, _, rfl, _, _, rfl, rfl, hb.mulOk hb, _, _, rfl, rfl, _, rfl, _, rfl, _, _, rfl, rfl, hc.mulOk hc, _, _, rfl, rfl, _, rfl, _, rfl, _, _, rfl, rfl, hd.mulOk hd, _, _, rfl, rfl, _, rfl, _, rfl, _, _, rfl, rfl, hc.mulOk hd, _, rfl, _, rfl, _, _, rfl, rfl, ha.mulOk hb, _, _, rfl, rfl, _, _, rfl, rfl, two1.mulOk ((hc.mul hd).sub (ha.mul hb)), (by show 3 <= sizeLine; decide), fun p2 e2 => ?_⟩
  refine ⟨_, rfl, _, rfl, _, _, rfl, rfl, hb.mulOk hd, _, rfl, _, rfl, _, _, rfl, rfl, ha.mulOk hc, _, _, rfl, rfl, _, _, rfl, rfl, two1.mulOk ((hb.mul hd).sub (ha.mul hc)), _, rfl, _, rfl, _, _, rfl, rfl, hc.mulOk hd, _, rfl, _, rfl, _, _, rfl, rfl, ha.mulOk hb, _, _, rfl, rfl, _, _, rfl, rfl, two1.mulOk ((hc.mul hd).add (ha.mul hb)), _, rfl, _, rfl, _, _, rfl, rfl, ha.mulOk ha, _, rfl, _, rfl, _, _, rfl, rfl, hb.mulOk hb, _, _, rfl, rfl, _, rfl, _, rfl, _, _, rfl, rfl, hc.mulOk hc, _, _, rfl, rfl, _, rfl, _, rfl, _, _, rfl, rfl, hd.mulOk hd, _, _, rfl, rfl, (by show 3 <= sizeLine; decide), fun p3 e3 => ?_⟩
  refine ⟨(by show 3 <= sizeLine; decide), fun r e4 => ?_⟩
  have s1 := Same.new e1 (.tup ((rw1 a b c d).map V.int))
  have s2 := Same.new e2 (.tup ((rw2 a b c d).map V.int))
  have s3 := Same.new e3 (.tup ((rw3 a b c d).map V.int))
  have s4 := Same.new e4 (.tup [.ref p1, .ref p2, .ref p3])
  exact q r _ (s1.trans (s2.trans (s3.trans s4))) ⟨p1, p2, p3, upd_same, s4 _ _ (s3 _ _ (s2 _ _ upd_same)), s4 _ _ (s3 _ _ upd_same), s4 _ _ upd_same⟩
theorem scLT : FnScope ["four", "level", "tops"] ["four", "level"] (defScope sLT) := ⟨rfl, rfl, rfl, by decide +kernel, rfl, by decide +kernel, by decide +kernel⟩
theorem ok_lt (F : Fun K "level_turned" "level_turned" sLT f fd)
    (G : FnOk P w K mg base CX0 1 g gd ["four"] (spWT K)) (bG : Binds K gd ["four"] []) (kG : PySem.W.keepIn K (.ref g) = true) (mG : mg "whole_table" = some (.ref g))
    (G2 : FnOk P w K mg base CX0 1 g2 gd2 ["one", "other"] (spSop K)) (bG2 : Binds K gd2 ["one", "other"] []) (kG2 : PySem.W.keepIn K (.ref g2) = true) (mG2 : mg "sum_of_products" = some (.ref g2))
    (G3 : FnOk P w K mg base CX0 2 g3 gd3 ["four"] (spSize K)) (bG3 : Binds K gd3 ["four"] []) (kG3 : PySem.W.keepIn K (.ref g3) = true) (mG3 : mg "size" = some (.ref g3)) (m_tuple : mg "tuple" = none) :
    FnOk P w K mg base CX0 3 f fd ["four", "level"] (spLT K) := by
  refine F.okZ scLT (fun vs H Q E h => ?_) (fun cdv A outer s H vs Q E hr h => ?_)
  . obtain ⟨x, p, q0, a, b, c, d, n1, n2, n3, m, rfl, _⟩ := h; rfl
  obtain ⟨x, p, q0, a, b, c, d, n1, n2, n3, m, rfl, hS, hB, hp, hq, m1, m2, m3, mm, q⟩ := h
  have r := hr.mono (show 1 <= 2 by decide)
  have r2 := hr.mono (show 1 <= 2 by decide)
  have r3 := hr.mono (show 2 <= 2 by decide)
  refine ⟨_, (zss_cons (zs_set (i := 2) scLT.nd rfl (Or.inl rfl) (ze_callTy call_tuple_of rfl m_tuple (by rfl) (za_cons (ze_comp (own := ["row"]) scLT rfl ⟨by decide +kernel, rfl, by decide +kernel, by decide +kernel, by decide +kernel, by decide +kernel, by decide +kernel, by decide +kernel, by decide +kernel⟩ (zi_tup (ze_call G r rfl mG kG bG .nil pass0 (za_n (zv 0) za_nil))) (fun C fp s H nd => zg_name (i := 0) nd rfl (Or.inl rfl)) (fun C fp s H => zts_nil) (fun C fp s H => (ze_call G2 r2 rfl mG2 kG2 bG2 .nil pass0 (za_n (zv 0) (za_s (ze_ix ix_tupC (zv 2) ze_int (fun _ _ => rfl)) za_nil))))) za_nil)))
    (zss_one (zs_ret (ze_tup (za_n (zv 2) (za_b (ze_op op_mulB (ze_ix ix_tup (zv 1) ze_int (fun _ _ => rfl)) (ze_call G3 r3 rfl mG3 kG3 bG3 .nil pass0 (za_n (zv 0) za_nil))) za_nil)))))), ?_⟩
  obtain ⟨R1, R2, R3⟩ := rows_bt hB
  refine ⟨_, rfl, x, a, b, c, d, rfl, hS, hB, fun w H1 s1 hw => ?_⟩
  obtain ⟨w1, w2, w3, hw0, hw1, hw2, hw3⟩ := hw.ex
  refine ⟨w, rfl, ⟨_, SqT.of hw0⟩, ?_⟩
  refine comp3 (n1 := sop (rw1 a b c d) [n1, n2, n3]) (n2 := sop (rw2 a b c d) [n1, n2, n3]) (n3 := sop (rw3 a b c d) [n1, n2, n3]) (src_tup (SqT.of (K := K) hw0)) (fun H' s R k => ?_) (fun H' s R k => ?_) (fun H' s R k => ?_) fun D H2 s2 hD _ => ?_
  . exact ⟨_, rfl, _, rfl, p, _, _, _, rfl, rfl, (s1.trans s).tup hp, atA, w1, q0, rw1 a b c d, [n1, n2, n3], rfl, SqT.of (s _ _ hw1), (s1.trans s).tup hq, (by show 3 <= 1000; decide), rfl, bts R1, sm3 m1 m2 m3, fun H5 s5 => k _ s5⟩
  . exact ⟨_, rfl, _, rfl, p, _, _, _, rfl, rfl, (s1.trans s).tup hp, atA, w2, q0, rw2 a b c d, [n1, n2, n3], rfl, SqT.of (s _ _ hw2), (s1.trans s).tup hq, (by show 3 <= 1000; decide), rfl, bts R2, sm3 m1 m2 m3, fun H5 s5 => k _ s5⟩
  . exact ⟨_, rfl, _, rfl, p, _, _, _, rfl, rfl, (s1.trans s).tup hp, atA, w3, q0, rw3 a b c d, [n1, n2, n3], rfl, SqT.of (s _ _ hw3), (s1.trans s).tup hq, (by show 3 <= 1000; decide), rfl, bts R3, sm3 m1 m2 m3, fun H5 s5 => k _ s5⟩
  refine ⟨D, _, rfl, .inl ⟨SqL.of hD, fun u hu => ?_⟩⟩
  have s3 := Same.new hu (.tup ([sop (rw1 a b c d) [n1, n2, n3], sop (rw2 a b c d) [n1, n2, n3], sop (rw3 a b c d) [n1, n2, n3]].map V.int))
  have S3 := s1.trans (s2.trans s3)
  have hu3 : upd H2 u (.tup ([sop (rw1 a b c d) [n1, n2, n3], sop (rw2 a b c d) [n1, n2, n3], sop (rw3 a b c d) [n1, n2, n3]].map V.int)) u = _ := upd_same
  refine ⟨_, rfl, _, rfl, p, _, _, _, rfl, rfl, S3.tup hp, atB, _, rfl, x, [a, b, c, d], rfl, S3.tup hS, (by show 4 <= 1000; decide), bts (k := 1000) (fun n hn => hB n hn), fun H4 s4 => ?_⟩
  have bn : Bt (sop [a, b, c, d] [a, b, c, d]) 2003 := by rw [sop4]; exact nrm_bt hB
  refine ⟨_, _, rfl, rfl, mm.mulOk bn, (by show 2 <= sizeLine; decide), fun r hr' => ?_⟩
  have s5 := Same.new hr' (.tup [.ref u, .int (m * sop [a, b, c, d] [a, b, c, d])])
  exact q r u _ (S3.trans (s4.trans s5)) upd_same (s5 _ _ (s4 _ _ hu3))
theorem scSizeOf : FnScope ["way"] ["way"] (defScope sSizeOf) := ⟨rfl, rfl, rfl, by decide +kernel, rfl, by decide +kernel, by decide +kernel⟩
theorem ok_sizeof (F : Fun K "size_of" "size_of" sSizeOf f fd)
    (G : FnOk P w K mg base CX0 1 g gd ["one", "other"] (spSop K)) (bG : Binds K gd ["one", "other"] []) (kG : PySem.W.keepIn K (.ref g) = true) (mG : mg "sum_of_products" = some (.ref g)) :
    FnOk P w K mg base CX0 2 f fd ["way"] (spP K RSz) := by
  refine okP F scSizeOf (fun ds d h => ?_) (fun cdv A0 outer s0 H0 E0 hr => ?_)
  . obtain ⟨p, q, r, rfl, _⟩ := h; rfl
  have r := hr.mono (show 1 <= 1 by decide)
  refine ⟨_, (zss_one (zs_ret (ze_call G r rfl mG kG bG .nil pass0 (za_n (zv 0) (za_n (zv 0) za_nil))))), fun ds d h => ?_⟩
  obtain ⟨p, q, r, rfl, b1, rfl⟩ := h
  exact S.ret1 (E1.cSop (ns := [p, q, r]) (ms := [p, q, r]) (A1.cons (E1.var rfl) (A1.cons (E1.var rfl) A1.nil)) (by show 3 <= 1000; decide) rfl (sm_bd' b1) (sm_bd' b1)) ⟨rfl, rfl⟩
theorem scTimes : FnScope ["number", "way"] ["number", "way"] (defScope sTimes) := ⟨rfl, rfl, rfl, by decide +kernel, rfl, by decide +kernel, by decide +kernel⟩
theorem ok_times (F : Fun K "times" "times" sTimes f fd) (m_tuple : mg "tuple" = none) :
    FnOk P w K mg base CX0 1 f fd ["number", "way"] (spP K RTms) := by
  refine okP F scTimes (fun ds d h => ?_) (fun cdv A0 outer s0 H0 E0 hr => ?_)
  . obtain ⟨n, p, q, r, rfl, _⟩ := h; rfl
  refine ⟨_, (zss_one (zs_ret (ze_callTy call_tuple_of rfl m_tuple (by rfl) (za_cons (ze_comp (own := ["entry"]) scTimes rfl ⟨by decide +kernel, rfl, by decide +kernel, by decide +kernel, by decide +kernel, by decide +kernel, by decide +kernel, by decide +kernel, by decide +kernel⟩ (zi_tup (zv 1)) (fun C fp s H nd => zg_name (i := 0) nd rfl (Or.inl rfl)) (fun C fp s H => zts_nil) (fun C fp s H => (ze_op op_mulB (zv 1) (zv 0)))) za_nil)))), fun ds d h => ?_⟩
  obtain ⟨n, p, q, r, rfl, b1, bn, rfl⟩ := h
  obtain ⟨bp, bq, br⟩ := bd_bt3 b1
  exact S.ret1 (s := .dat (tI [n * p, n * q, n * r])) (E1.tupleL (A1.cons (E1.vwo (E1.comp3 (d1 := .int p) (d2 := .int q) (d3 := .int r) (Wk.tup (E1.var rfl)) (E1.mul (E1.var rfl) (E1.var rfl) (bn.mulOk bp)) (E1.mul (E1.var rfl) (E1.var rfl) (bn.mulOk bq)) (E1.mul (E1.var rfl) (E1.var rfl) (bn.mulOk br)))) A1.nil)) ⟨rfl, rfl⟩
theorem scT3 : FnScope ["rows", "others", "added", "both", "pair", "across"] ["rows", "others"] (defScope sT3) := ⟨rfl, rfl, rfl, by decide +kernel, rfl, by decide +kernel, by decide +kernel⟩
theorem ok_t3 (F : Fun K "turn_of_three" "turn_of_three" sT3 f fd)
    (G : FnOk P w K mg base CX0 1 g gd ["one", "other"] (spP K RRdif)) (bG : Binds K gd ["one", "other"] []) (kG : PySem.W.keepIn K (.ref g) = true) (mG : mg "row_difference" = some (.ref g))
    (G2 : FnOk P w K mg base CX0 1 g2 gd2 ["one", "other"] (spP K RRsum)) (bG2 : Binds K gd2 ["one", "other"] []) (kG2 : PySem.W.keepIn K (.ref g2) = true) (mG2 : mg "row_sum" = some (.ref g2))
    (G3 : FnOk P w K mg base CX0 1 g3 gd3 ["one", "other"] (spCross K)) (bG3 : Binds K gd3 ["one", "other"] []) (kG3 : PySem.W.keepIn K (.ref g3) = true) (mG3 : mg "cross_product" = some (.ref g3))
    (G4 : FnOk P w K mg base CX0 3 g4 gd4 ["four"] (spT K PlainPre pl)) (bG4 : Binds K gd4 ["four"] []) (kG4 : PySem.W.keepIn K (.ref g4) = true) (mG4 : mg "plain" = some (.ref g4))
    (G5 : FnOk P w K mg base CX0 1 g5 gd5 ["one", "other"] (spSop K)) (bG5 : Binds K gd5 ["one", "other"] []) (kG5 : PySem.W.keepIn K (.ref g5) = true) (mG5 : mg "sum_of_products" = some (.ref g5)) (m_zip : mg "zip" = none) (m_NOTHING : mg "NOTHING" = some (.ref dNOTHING)) (t_NOTHING : TupT K dNOTHING [1, 0, 0, 0]) :
    FnOk P w K mg base CX0 4 f fd ["rows", "others"] (spQ K RT3) := by
  refine okQ F scT3 (fun ds d h => ?_) (fun cdv A0 outer s0 H0 E0 hr => ?_)
  . obtain ⟨a, b, c, d, e, f, p, q, r, s, t, u, rfl, _⟩ := h; rfl
  have r := hr.mono (show 1 <= 3 by decide)
  have r2 := hr.mono (show 1 <= 3 by decide)
  have r3 := hr.mono (show 1 <= 3 by decide)
  have r4 := hr.mono (show 3 <= 3 by decide)
  have r5 := hr.mono (show 1 <= 3 by decide)
  refine ⟨_, (zss_cons (zs_comp (i := 2) (own := ["row", "other"]) scT3 rfl ⟨by decide +kernel, rfl, by decide +kernel, by decide +kernel, by decide +kernel, by decide +kernel, by decide +kernel, by decide +kernel, by decide +kernel⟩ (zi_zip rfl m_zip (za_n (zv 0) (za_n (zv 1) za_nil))) (fun C fp s H nd => zg_pair rfl nd rfl rfl rfl rfl) (fun C fp s H => zts_nil) (fun C fp s H => (ze_call G r rfl mG kG bG .nil pass0 (za_n (zv 1) (za_n (zv 0) za_nil)))) scT3.nd rfl (Or.inl rfl) rfl)
    (zss_cons (zs_comp (i := 3) (own := ["row", "other"]) scT3 rfl ⟨by decide +kernel, rfl, by decide +kernel, by decide +kernel, by decide +kernel, by decide +kernel, by decide +kernel, by decide +kernel, by decide +kernel⟩ (zi_zip rfl m_zip (za_n (zv 0) (za_n (zv 1) za_nil))) (fun C fp s H nd => zg_pair rfl nd rfl rfl rfl rfl) (fun C fp s H => zts_nil) (fun C fp s H => (ze_call G2 r2 rfl mG2 kG2 bG2 .nil pass0 (za_n (zv 0) (za_n (zv 1) za_nil)))) scT3.nd rfl (Or.inl rfl) rfl)
    (zss_cons (zs_for PassesOwn.never rfl (zi_tup (ze_tup (za_t (ze_tup (za_i (za_i za_nil))) (za_t (ze_tup (za_i (za_i za_nil))) (za_t (ze_tup (za_i (za_i za_nil))) za_nil))))) (zg_name (i := 4) scT3.nd rfl (Or.inl rfl)) (zss_cons (zs_set (i := 5) scT3.nd rfl (Or.inl rfl) (ze_call G3 r3 rfl mG3 kG3 bG3 .nil pass0 (za_s (ze_ix ix_list (zv 2) (ze_ix ix_tup (zv 4) ze_int (fun _ _ => rfl)) (fun _ _ => rfl)) (za_s (ze_ix ix_list (zv 2) (ze_ix ix_tup (zv 4) ze_int (fun _ _ => rfl)) (fun _ _ => rfl)) za_nil))))
    (zss_one (zs_if (zt_cmpR (op_neD hr.units) (zv 5) (ze_tup (za_i (za_i (za_i za_nil)))) (nomark _)) (zss_one (zs_ret (ze_call G4 r4 rfl mG4 kG4 bG4 .nil pass0 (za_b (ze_op op_catW (ze_tup (za_c (ze_call G5 r5 rfl mG5 kG5 bG5 .nil pass0 (za_s (ze_ix ix_list (zv 2) (ze_ix ix_tup (zv 4) ze_int (fun _ _ => rfl)) (fun _ _ => rfl)) (za_s (ze_ix ix_list (zv 3) (ze_ix ix_tup (zv 4) ze_int (fun _ _ => rfl)) (fun _ _ => rfl)) za_nil))) za_nil)) (zv 5)) za_nil)))) zss_nil))))
    (zss_one (zs_ret (ze_glob (v := .ref dNOTHING) rfl m_NOTHING rfl)))))), fun ds C h => ?_⟩
  obtain ⟨a, b, c, d, e, f, p, q, r, s, t, u, rfl, ba, bb, bc, be, gr, n3, rfl⟩ := h
  obtain ⟨g1, g2, g3, eg⟩ : ∃ x y z, cr a b c d e f = [x, y, z] := ⟨_, _, _, rfl⟩
  obtain ⟨h1, h2, h3, eh⟩ : ∃ x y z, cr p q r s t u = [x, y, z] := ⟨_, _, _, rfl⟩
  have bg := bd_cr3 ba bb eg
  have bh := bd_cr3 bc be eh
  have bd0 : Bd (2 ^ 324) [p - a, q - b, r - c] := bd_sub3 bc ba
  have bd1 : Bd (2 ^ 324) [s - d, t - e, u - f] := bd_sub3 be bb
  have bd2 : Bd (2 ^ 648) [h1 - g1, h2 - g2, h3 - g3] := bd_sub3 bh bg
  have bb0 : Bd (2 ^ 324) [a + p, b + q, c + r] := bd_add3 ba bc
  have bb1 : Bd (2 ^ 324) [d + s, e + t, f + u] := bd_add3 bb be
  have bb2 : Bd (2 ^ 648) [g1 + h1, g2 + h2, g3 + h3] := bd_add3 bg bh
  obtain ⟨x00, x01, x02, ex0⟩ : ∃ x y z, cr (p - a) (q - b) (r - c) (s - d) (t - e) (u - f) = [x, y, z] := ⟨_, _, _, rfl⟩
  have bx0 := bd_cr3 bd0 bd1 ex0
  obtain ⟨x10, x11, x12, ex1⟩ : ∃ x y z, cr (p - a) (q - b) (r - c) (h1 - g1) (h2 - g2) (h3 - g3) = [x, y, z] := ⟨_, _, _, rfl⟩
  have bx1 := bd_cr3 bd0 bd2 ex1
  obtain ⟨x20, x21, x22, ex2⟩ : ∃ x y z, cr (s - d) (t - e) (u - f) (h1 - g1) (h2 - g2) (h3 - g3) = [x, y, z] := ⟨_, _, _, rfl⟩
  have bx2 := bd_cr3 bd1 bd2 ex2
  rw [eg, eh]
  refine S.let1 (s := .dat (.list [tI [p - a, q - b, r - c], tI [s - d, t - e, u - f], tI [h1 - g1, h2 - g2, h3 - g3]])) (E1.frz (E1.compZ3 (Wk.zip (A1.cons (E1.var rfl) (A1.cons (E1.var rfl) A1.nil)) rfl) (E1.call (R := RRdif) (ds := [tI [p, q, r], tI [a, b, c]]) (A1.cons (E1.var rfl) (A1.cons (E1.var rfl) A1.nil)) ⟨p, q, r, a, b, c, rfl, rfl⟩) (E1.call (R := RRdif) (ds := [tI [s, t, u], tI [d, e, f]]) (A1.cons (E1.var rfl) (A1.cons (E1.var rfl) A1.nil)) ⟨s, t, u, d, e, f, rfl, rfl⟩) (E1.call (R := RRdif) (ds := [tI [h1, h2, h3], tI [g1, g2, g3]]) (A1.cons (E1.var rfl) (A1.cons (E1.var rfl) A1.nil)) ⟨h1, h2, h3, g1, g2, g3, rfl, rfl⟩))) ?_
  refine S.let1 (s := .dat (.list [tI [a + p, b + q, c + r], tI [d + s, e + t, f + u], tI [g1 + h1, g2 + h2, g3 + h3]])) (E1.frz (E1.compZ3 (Wk.zip (A1.cons (E1.var rfl) (A1.cons (E1.var rfl) A1.nil)) rfl) (E1.call (R := RRsum) (ds := [tI [a, b, c], tI [p, q, r]]) (A1.cons (E1.var rfl) (A1.cons (E1.var rfl) A1.nil)) ⟨a, b, c, p, q, r, rfl, rfl⟩) (E1.call (R := RRsum) (ds := [tI [d, e, f], tI [s, t, u]]) (A1.cons (E1.var rfl) (A1.cons (E1.var rfl) A1.nil)) ⟨d, e, f, s, t, u, rfl, rfl⟩) (E1.call (R := RRsum) (ds := [tI [g1, g2, g3], tI [h1, h2, h3]]) (A1.cons (E1.var rfl) (A1.cons (E1.var rfl) A1.nil)) ⟨g1, g2, g3, h1, h2, h3, rfl, rfl⟩))) ?_
  refine S.seq (M := fun τ' => ([x00, x01, x02] = [0, 0, 0] /\ [x10, x11, x12] = [0, 0, 0] /\ [x20, x21, x22] = [0, 0, 0]) /\ ∃ o4 o5 : Sl, τ' = [.dat (.tuple [tI [a, b, c], tI [d, e, f], tI [g1, g2, g3]]), .dat (.tuple [tI [p, q, r], tI [s, t, u], tI [h1, h2, h3]]), .dat (.list [tI [p - a, q - b, r - c], tI [s - d, t - e, u - f], tI [h1 - g1, h2 - g2, h3 - g3]]), .dat (.list [tI [a + p, b + q, c + r], tI [d + s, e + t, f + u], tI [g1 + h1, g2 + h2, g3 + h3]]), o4, o5]) ?_ fun τ' ⟨hZ, o4, o5, eτ⟩ => ?_
  . refine S.for (Wk.tup (ds := [tI [0, 1], tI [0, 2], tI [1, 2]]) (E1.tu (A1.cons (E1.tu (A1.cons E1.int (A1.cons E1.int A1.nil)) rfl (lsz (n := 2) rfl z2)) (A1.cons (E1.tu (A1.cons E1.int (A1.cons E1.int A1.nil)) rfl (lsz (n := 2) rfl z2)) (A1.cons (E1.tu (A1.cons E1.int (A1.cons E1.int A1.nil)) rfl (lsz (n := 2) rfl z2)) A1.nil))) rfl (lsz (n := 3) rfl z3))) (fun k τ' => tw ([x00, x01, x02] = [0, 0, 0]) ([x10, x11, x12] = [0, 0, 0]) ([x20, x21, x22] = [0, 0, 0]) k /\ ∃ o4 o5 : Sl, τ' = [.dat (.tuple [tI [a, b, c], tI [d, e, f], tI [g1, g2, g3]]), .dat (.tuple [tI [p, q, r], tI [s, t, u], tI [h1, h2, h3]]), .dat (.list [tI [p - a, q - b, r - c], tI [s - d, t - e, u - f], tI [h1 - g1, h2 - g2, h3 - g3]]), .dat (.list [tI [a + p, b + q, c + r], tI [d + s, e + t, f + u], tI [g1 + h1, g2 + h2, g3 + h3]]), o4, o5]) ⟨trivial, _, _, rfl⟩ (fun k dd τ1 hd ⟨hI, o4, o5, e1⟩ => ?_) (fun τ1 h => h)
    subst e1
    rcases get3 hd with ⟨rfl, rfl⟩ | ⟨rfl, rfl⟩ | ⟨rfl, rfl⟩
    . refine ⟨_, Gd.name rfl, ?_⟩
      refine S.let1 (s := .dat (tI [x00, x01, x02])) (E1.to (s' := .dat (tI [x00, x01, x02])) (E1.cCross (A1.cons (E1.ixL (E1.varL rfl) (E1.ixT (E1.var rfl) E1.int rfl) rfl) (A1.cons (E1.ixL (E1.varL rfl) (E1.ixT (E1.var rfl) E1.int rfl) rfl) A1.nil)) (bd_mono bd0 (Nat.pow_le_pow_right (by decide) (by decide))) (bd_mono bd1 (Nat.pow_le_pow_right (by decide) (by decide)))) (by rw [ex0])) ?_
      refine S.if1 (b := !decide ([x00, x01, x02] = [0, 0, 0])) ((T1.test (E1.neD (d := tI [x00, x01, x02]) (e := tI [0, 0, 0]) (E1.var rfl) (E1.tu (A1.cons E1.int (A1.cons E1.int (A1.cons E1.int A1.nil))) rfl (lsz (n := 3) rfl z3)) rfl rfl kqd_tup kqd_tup)).eqn (by rw [deq_tI])) (fun h => ?_) (fun h => ?_)
      . have hne : [x00, x01, x02] ≠ [0, 0, 0] := ne_of_b h
        have nz := nz_tail (w := (sop [p - a, q - b, r - c] [d + s, e + t, f + u])) hne
        have htn := tn_pair (w := (((sop [p - a, q - b, r - c] [d + s, e + t, f + u]) : Int) : Rat)) (v := IR x00 x01 x02) gr (by rw [sop_dot, IR_sub, IR_add]) (by rw [IR_cr ex0, IR_sub, IR_sub])
        have bw : Bd (2 ^ 1000) [(sop [p - a, q - b, r - c] [d + s, e + t, f + u]), x00, x01, x02] := bd4_of ((bt_sop3 bd0 bb1).up (by decide)) ((bd3 bx0).1.up (by decide)) ((bd3 bx0).2.1.up (by decide)) ((bd3 bx0).2.2.up (by decide))
        have hTb := tb_of nz bw htn.1 htn.2
        exact S.ret1 (s := .dat (tI (pl [(sop [p - a, q - b, r - c] [d + s, e + t, f + u]), x00, x01, x02]))) (E1.cT (ns := [(sop [p - a, q - b, r - c] [d + s, e + t, f + u]), x00, x01, x02]) (A1.cons (E1.to (E1.catT (xs := [.int (sop [p - a, q - b, r - c] [d + s, e + t, f + u])]) (ys := [.int x00, .int x01, .int x02]) (E1.tu (A1.cons (E1.cSop (ns := [p - a, q - b, r - c]) (ms := [d + s, e + t, f + u]) (A1.cons (E1.ixL (E1.varL rfl) (E1.ixT (E1.var rfl) E1.int rfl) rfl) (A1.cons (E1.ixL (E1.varL rfl) (E1.ixT (E1.var rfl) E1.int rfl) rfl) A1.nil)) (show 3 <= 1000 by decide) rfl (sm_bd' bd0) (sm_bd' bb1)) A1.nil) rfl (lsz (n := 1) rfl z1)) (E1.var rfl) (show 4 <= sizeLine by decide)) rfl) A1.nil) (show 4 <= 1000 by decide) ⟨rfl, nz, sm_bd' bw⟩) ⟨_, hTb, rfl, noLs_ints _⟩
      . have hz : [x00, x01, x02] = [0, 0, 0] := eq_of_b h
        exact S.next ⟨hz, _, _, rfl⟩
    . refine ⟨_, Gd.name rfl, ?_⟩
      refine S.let1 (s := .dat (tI [x10, x11, x12])) (E1.to (s' := .dat (tI [x10, x11, x12])) (E1.cCross (A1.cons (E1.ixL (E1.varL rfl) (E1.ixT (E1.var rfl) E1.int rfl) rfl) (A1.cons (E1.ixL (E1.varL rfl) (E1.ixT (E1.var rfl) E1.int rfl) rfl) A1.nil)) (bd_mono bd0 (Nat.pow_le_pow_right (by decide) (by decide))) (bd_mono bd2 (Nat.pow_le_pow_right (by decide) (by decide)))) (by rw [ex1])) ?_
      refine S.if1 (b := !decide ([x10, x11, x12] = [0, 0, 0])) ((T1.test (E1.neD (d := tI [x10, x11, x12]) (e := tI [0, 0, 0]) (E1.var rfl) (E1.tu (A1.cons E1.int (A1.cons E1.int (A1.cons E1.int A1.nil))) rfl (lsz (n := 3) rfl z3)) rfl rfl kqd_tup kqd_tup)).eqn (by rw [deq_tI])) (fun h => ?_) (fun h => ?_)
      . have hne : [x10, x11, x12] ≠ [0, 0, 0] := ne_of_b h
        have nz := nz_tail (w := (sop [p - a, q - b, r - c] [g1 + h1, g2 + h2, g3 + h3])) hne
        have htn := tn_13 (w := (((sop [p - a, q - b, r - c] [g1 + h1, g2 + h2, g3 + h3]) : Int) : Rat)) (v := IR x10 x11 x12) gr (by rw [sop_dot, IR_sub, IR_add, IR_cr eg, IR_cr eh]) (by rw [IR_cr ex1, IR_sub, IR_sub, IR_cr eg, IR_cr eh]) (nq_ne nz) (dot_ne n3).1
        have bw : Bd (2 ^ 1000) [(sop [p - a, q - b, r - c] [g1 + h1, g2 + h2, g3 + h3]), x10, x11, x12] := bd4_of ((bt_sop3 bd0 bb2).up (by decide)) ((bd3 bx1).1.up (by decide)) ((bd3 bx1).2.1.up (by decide)) ((bd3 bx1).2.2.up (by decide))
        have hTb := tb_of nz bw htn.1 htn.2
        exact S.ret1 (s := .dat (tI (pl [(sop [p - a, q - b, r - c] [g1 + h1, g2 + h2, g3 + h3]), x10, x11, x12]))) (E1.cT (ns := [(sop [p - a, q - b, r - c] [g1 + h1, g2 + h2, g3 + h3]), x10, x11, x12]) (A1.cons (E1.to (E1.catT (xs := [.int (sop [p - a, q - b, r - c] [g1 + h1, g2 + h2, g3 + h3])]) (ys := [.int x10, .int x11, .int x12]) (E1.tu (A1.cons (E1.cSop (ns := [p - a, q - b, r - c]) (ms := [g1 + h1, g2 + h2, g3 + h3]) (A1.cons (E1.ixL (E1.varL rfl) (E1.ixT (E1.var rfl) E1.int rfl) rfl) (A1.cons (E1.ixL (E1.varL rfl) (E1.ixT (E1.var rfl) E1.int rfl) rfl) A1.nil)) (show 3 <= 1000 by decide) rfl (sm_bd' bd0) (sm_bd' bb2)) A1.nil) rfl (lsz (n := 1) rfl z1)) (E1.var rfl) (show 4 <= sizeLine by decide)) rfl) A1.nil) (show 4 <= 1000 by decide) ⟨rfl, nz, sm_bd' bw⟩) ⟨_, hTb, rfl, noLs_ints _⟩
      . have hz : [x10, x11, x12] = [0, 0, 0] := eq_of_b h
        exact S.next ⟨⟨hI, hz⟩, _, _, rfl⟩
    . refine ⟨_, Gd.name rfl, ?_⟩
      refine S.let1 (s := .dat (tI [x20, x21, x22])) (E1.to (s' := .dat (tI [x20, x21, x22])) (E1.cCross (A1.cons (E1.ixL (E1.varL rfl) (E1.ixT (E1.var rfl) E1.int rfl) rfl) (A1.cons (E1.ixL (E1.varL rfl) (E1.ixT (E1.var rfl) E1.int rfl) rfl) A1.nil)) (bd_mono bd1 (Nat.pow_le_pow_right (by decide) (by decide))) (bd_mono bd2 (Nat.pow_le_pow_right (by decide) (by decide)))) (by rw [ex2])) ?_
      refine S.if1 (b := !decide ([x20, x21, x22] = [0, 0, 0])) ((T1.test (E1.neD (d := tI [x20, x21, x22]) (e := tI [0, 0, 0]) (E1.var rfl) (E1.tu (A1.cons E1.int (A1.cons E1.int (A1.cons E1.int A1.nil))) rfl (lsz (n := 3) rfl z3)) rfl rfl kqd_tup kqd_tup)).eqn (by rw [deq_tI])) (fun h => ?_) (fun h => ?_)
      . have hne : [x20, x21, x22] ≠ [0, 0, 0] := ne_of_b h
        have nz := nz_tail (w := (sop [s - d, t - e, u - f] [g1 + h1, g2 + h2, g3 + h3])) hne
        have htn := tn_23 (w := (((sop [s - d, t - e, u - f] [g1 + h1, g2 + h2, g3 + h3]) : Int) : Rat)) (v := IR x20 x21 x22) gr (by rw [sop_dot, IR_sub, IR_add, IR_cr eg, IR_cr eh]) (by rw [IR_cr ex2, IR_sub, IR_sub, IR_cr eg, IR_cr eh]) (nq_ne nz) (dot_ne n3).2
        have bw : Bd (2 ^ 1000) [(sop [s - d, t - e, u - f] [g1 + h1, g2 + h2, g3 + h3]), x20, x21, x22] := bd4_of ((bt_sop3 bd1 bb2).up (by decide)) ((bd3 bx2).1.up (by decide)) ((bd3 bx2).2.1.up (by decide)) ((bd3 bx2).2.2.up (by decide))
        have hTb := tb_of nz bw htn.1 htn.2
        exact S.ret1 (s := .dat (tI (pl [(sop [s - d, t - e, u - f] [g1 + h1, g2 + h2, g3 + h3]), x20, x21, x22]))) (E1.cT (ns := [(sop [s - d, t - e, u - f] [g1 + h1, g2 + h2, g3 + h3]), x20, x21, x22]) (A1.cons (E1.to (E1.catT (xs := [.int (sop [s - d, t - e, u - f] [g1 + h1, g2 + h2, g3 + h3])]) (ys := [.int x20, .int x21, .int x22]) (E1.tu (A1.cons (E1.cSop (ns := [s - d, t - e, u - f]) (ms := [g1 + h1, g2 + h2, g3 + h3]) (A1.cons (E1.ixL (E1.varL rfl) (E1.ixT (E1.var rfl) E1.int rfl) rfl) (A1.cons (E1.ixL (E1.varL rfl) (E1.ixT (E1.var rfl) E1.int rfl) rfl) A1.nil)) (show 3 <= 1000 by decide) rfl (sm_bd' bd1) (sm_bd' bb2)) A1.nil) rfl (lsz (n := 1) rfl z1)) (E1.var rfl) (show 4 <= sizeLine by decide)) rfl) A1.nil) (show 4 <= 1000 by decide) ⟨rfl, nz, sm_bd' bw⟩) ⟨_, hTb, rfl, noLs_ints _⟩
      . have hz : [x20, x21, x22] = [0, 0, 0] := eq_of_b h
        exact S.next ⟨⟨hI.1, hI.2, hz⟩, _, _, rfl⟩
  subst eτ
  obtain ⟨z0_, z1_, z2_⟩ := hZ
  have hna := none_added gr n3 (by rw [<- IR_sub, <- IR_sub, <- IR_cr ex0]; exact IR_r0.mpr z0_) (by rw [<- IR_cr eg, <- IR_cr eh, <- IR_sub, <- IR_sub, <- IR_cr ex1]; exact IR_r0.mpr z1_) (by rw [<- IR_cr eg, <- IR_cr eh, <- IR_sub, <- IR_sub, <- IR_cr ex2]; exact IR_r0.mpr z2_)
  obtain ⟨e1, e2⟩ := hna
  rw [e1, e2]
  exact S.ret1 (s := .dat (tI [1, 0, 0, 0])) (E1.gT t_NOTHING) ⟨_, tb_none, rfl, noLs_ints _⟩
theorem scTBw : FnScope ["first", "second", "third", "fourth", "rows"] ["first", "second", "third", "fourth"] (defScope sTBw) := ⟨rfl, rfl, rfl, by decide +kernel, rfl, by decide +kernel, by decide +kernel⟩
theorem ok_tbw (F : Fun K "turn_between" "turn_between" sTBw f fd)
    (G : FnOk P w K mg base CX0 1 g gd ["one", "other"] (spCross K)) (bG : Binds K gd ["one", "other"] []) (kG : PySem.W.keepIn K (.ref g) = true) (mG : mg "cross_product" = some (.ref g))
    (G2 : FnOk P w K mg base CX0 4 g2 gd2 ["rows", "others"] (spQ K RT3)) (bG2 : Binds K gd2 ["rows", "others"] []) (kG2 : PySem.W.keepIn K (.ref g2) = true) (mG2 : mg "turn_of_three" = some (.ref g2)) :
    FnOk P w K mg base CX0 5 f fd ["first", "second", "third", "fourth"] (spQ K RTb) := by
  refine okQ F scTBw (fun ds d h => ?_) (fun cdv A0 outer s0 H0 E0 hr => ?_)
  . obtain ⟨a, b, c, d, e, f, p, q, r, s, t, u, rfl, _⟩ := h; rfl
  have r := hr.mono (show 1 <= 4 by decide)
  have r2 := hr.mono (show 4 <= 4 by decide)
  refine ⟨_, (zss_cons (zs_set (i := 4) scTBw.nd rfl (Or.inl rfl) (ze_tup (za_n (zv 0) (za_n (zv 1) (za_c (ze_call G r rfl mG kG bG .nil pass0 (za_n (zv 0) (za_n (zv 1) za_nil))) za_nil)))))
    (zss_one (zs_ret (ze_call G2 r2 rfl mG2 kG2 bG2 .nil pass0 (za_n (zv 4) (za_t (ze_tup (za_n (zv 2) (za_n (zv 3) (za_c (ze_call G r rfl mG kG bG .nil pass0 (za_n (zv 2) (za_n (zv 3) za_nil))) za_nil)))) za_nil)))))), fun ds C h => ?_⟩
  obtain ⟨a, b, c, d, e, f, p, q, r, s, t, u, rfl, ba, bb, bc, be, gr, n3, rfl⟩ := h
  have up : ∀ {l : List Int}, Bd (2 ^ 323) l -> Bd (2 ^ 4000) l := fun h => bd_mono h (Nat.pow_le_pow_right (by decide) (by decide))
  refine S.let1 (s := .dat (.tuple [tI [a, b, c], tI [d, e, f], tI (cr a b c d e f)])) (E1.tu (A1.cons (E1.var rfl) (A1.cons (E1.var rfl) (A1.cons (E1.cCross (A1.cons (E1.var rfl) (A1.cons (E1.var rfl) A1.nil)) (up ba) (up bb)) A1.nil))) rfl (lsz (n := 3) rfl z3)) ?_
  exact S.ret (E.callQ (R := RT3) (ds := [.tuple [tI [a, b, c], tI [d, e, f], tI (cr a b c d e f)], .tuple [tI [p, q, r], tI [s, t, u], tI (cr p q r s t u)]]) (A1.cons (E1.var rfl) (A1.cons (E1.tu (A1.cons (E1.var rfl) (A1.cons (E1.var rfl) (A1.cons (E1.cCross (A1.cons (E1.var rfl) (A1.cons (E1.var rfl) A1.nil)) (up bc) (up be)) A1.nil))) rfl (lsz (n := 3) rfl z3)) A1.nil)) ⟨a, b, c, d, e, f, p, q, r, s, t, u, rfl, ba, bb, bc, be, gr, n3, rfl⟩) (fun s ⟨g, es, hg⟩ => by subst es; obtain ⟨w, x, y, z, rfl, hr⟩ := hg; exact ⟨_, ⟨w, x, y, z, rfl, hr⟩, rfl, noLs_ints _⟩)
theorem scOneL : FnScope ["points", "others", "here", "there"] ["points", "others"] (defScope sOneL) := ⟨rfl, rfl, rfl, by decide +kernel, rfl, by decide +kernel, by decide +kernel⟩
theorem ok_onel (F : Fun K "on_one_level" "on_one_level" sOneL f fd)
    (G : FnOk P w K mg base CX0 4 g gd ["points"] (spX K RLvP)) (bG : Binds K gd ["points"] []) (kG : PySem.W.keepIn K (.ref g) = true) (mG : mg "levelled_points" = some (.ref g))
    (G2 : FnOk P w K mg base CX0 1 g2 gd2 ["number", "way"] (spP K RTms)) (bG2 : Binds K gd2 ["number", "way"] []) (kG2 : PySem.W.keepIn K (.ref g2) = true) (mG2 : mg "times" = some (.ref g2)) :
    FnOk P w K mg base CX0 5 f fd ["points", "others"] (spX K ROne) := by
  refine okX F scOneL (fun ds d h => ?_) (fun cdv A0 outer s0 H0 E0 hr => ?_)
  . obtain ⟨b, b1, p0, p1, p2, o0, o1, o2, rfl, _⟩ := h; rfl
  have r := hr.mono (show 4 <= 4 by decide)
  have r2 := hr.mono (show 1 <= 4 by decide)
  refine ⟨_, (zss_cons (zs_set (i := 2) scOneL.nd rfl (Or.inr rfl) (ze_call G r rfl mG kG bG .nil pass0 (za_n (zv 0) za_nil)))
    (zss_cons (zs_set (i := 3) scOneL.nd rfl (Or.inr rfl) (ze_call G r rfl mG kG bG .nil pass0 (za_n (zv 1) za_nil)))
    (zss_one (zs_ret (ze_tup (za_cons (ze_comp (own := ["row"]) scOneL rfl ⟨by decide +kernel, rfl, by decide +kernel, by decide +kernel, by decide +kernel, by decide +kernel, by decide +kernel, by decide +kernel, by decide +kernel⟩ (zi_list (ze_ix ix_tup (zv 2) ze_int (fun _ _ => rfl))) (fun C fp s H nd => zg_name (i := 0) nd rfl (Or.inl rfl)) (fun C fp s H => zts_nil) (fun C fp s H => (ze_call G2 r2 rfl mG2 kG2 bG2 .nil pass0 (za_s (ze_ix ix_tupC (zv 4) ze_int (fun _ _ => rfl)) (za_n (zv 0) za_nil))))) (za_cons (ze_comp (own := ["row"]) scOneL rfl ⟨by decide +kernel, rfl, by decide +kernel, by decide +kernel, by decide +kernel, by decide +kernel, by decide +kernel, by decide +kernel, by decide +kernel⟩ (zi_list (ze_ix ix_tup (zv 3) ze_int (fun _ _ => rfl))) (fun C fp s H nd => zg_name (i := 0) nd rfl (Or.inl rfl)) (fun C fp s H => zts_nil) (fun C fp s H => (ze_call G2 r2 rfl mG2 kG2 bG2 .nil pass0 (za_s (ze_ix ix_tupC (zv 3) ze_int (fun _ _ => rfl)) (za_n (zv 0) za_nil))))) za_nil))))))), fun ds C h => ?_⟩
  obtain ⟨b, b1, p0, p1, p2, o0, o1, o2, rfl, ⟨B, B0, bB, tp⟩, ⟨B1, B10, bB1, to⟩, rfl⟩ := h
  refine S.letX (R := RLvP) (ds := [sqD b [p0.d, p1.d, p2.d]]) rfl (A1.cons (E1.var rfl) A1.nil) ⟨b, p0, p1, p2, B, 129, rfl, B0, bB, by decide, tp, rfl⟩ (fun g ⟨L, eg, L0, LB, Ld⟩ => ?_)
  subst eg
  refine S.letX (R := RLvP) (ds := [sqD b1 [o0.d, o1.d, o2.d]]) rfl (A1.cons (E1.var rfl) A1.nil) ⟨b1, o0, o1, o2, B1, 193, rfl, B10, bB1, by decide, to, rfl⟩ (fun g ⟨L1, eg, L10, LB1, Ld1⟩ => ?_)
  subst eg
  have bL : Bt L 129 := bt_dvd LB B0 bB
  have bL1 : Bt L1 193 := bt_dvd LB1 B10 bB1
  have q0 : Bd (2 ^ 1000) [topL L p0.x, topL L p0.y, topL L p0.z] := bd_mono (bd3' (topL_bt tp.1.1 B0 L0 LB (Ld p0.x (by simp))) (topL_bt tp.1.2.1 B0 L0 LB (Ld p0.y (by simp))) (topL_bt tp.1.2.2 B0 L0 LB (Ld p0.z (by simp)))) (Nat.pow_le_pow_right (by decide) (by decide))
  have q1 : Bd (2 ^ 1000) [topL L p1.x, topL L p1.y, topL L p1.z] := bd_mono (bd3' (topL_bt tp.2.1.1 B0 L0 LB (Ld p1.x (by simp))) (topL_bt tp.2.1.2.1 B0 L0 LB (Ld p1.y (by simp))) (topL_bt tp.2.1.2.2 B0 L0 LB (Ld p1.z (by simp)))) (Nat.pow_le_pow_right (by decide) (by decide))
  have q2 : Bd (2 ^ 1000) [topL L p2.x, topL L p2.y, topL L p2.z] := bd_mono (bd3' (topL_bt tp.2.2.1 B0 L0 LB (Ld p2.x (by simp))) (topL_bt tp.2.2.2.1 B0 L0 LB (Ld p2.y (by simp))) (topL_bt tp.2.2.2.2 B0 L0 LB (Ld p2.z (by simp)))) (Nat.pow_le_pow_right (by decide) (by decide))
  have s0 : Bd (2 ^ 1000) [topL L1 o0.x, topL L1 o0.y, topL L1 o0.z] := bd_mono (bd3' (topL_bt to.1.1 B10 L10 LB1 (Ld1 o0.x (by simp))) (topL_bt to.1.2.1 B10 L10 LB1 (Ld1 o0.y (by simp))) (topL_bt to.1.2.2 B10 L10 LB1 (Ld1 o0.z (by simp)))) (Nat.pow_le_pow_right (by decide) (by decide))
  have s1 : Bd (2 ^ 1000) [topL L1 o1.x, topL L1 o1.y, topL L1 o1.z] := bd_mono (bd3' (topL_bt to.2.1.1 B10 L10 LB1 (Ld1 o1.x (by simp))) (topL_bt to.2.1.2.1 B10 L10 LB1 (Ld1 o1.y (by simp))) (topL_bt to.2.1.2.2 B10 L10 LB1 (Ld1 o1.z (by simp)))) (Nat.pow_le_pow_right (by decide) (by decide))
  have s2 : Bd (2 ^ 1000) [topL L1 o2.x, topL L1 o2.y, topL L1 o2.z] := bd_mono (bd3' (topL_bt to.2.2.1 B10 L10 LB1 (Ld1 o2.x (by simp))) (topL_bt to.2.2.2.1 B10 L10 LB1 (Ld1 o2.y (by simp))) (topL_bt to.2.2.2.2 B10 L10 LB1 (Ld1 o2.z (by simp)))) (Nat.pow_le_pow_right (by decide) (by decide))
  exact S.ret1 (s := .dat (.tuple [.list [tI [L1 * topL L p0.x, L1 * topL L p0.y, L1 * topL L p0.z], tI [L1 * topL L p1.x, L1 * topL L p1.y, L1 * topL L p1.z], tI [L1 * topL L p2.x, L1 * topL L p2.y, L1 * topL L p2.z]], .list [tI [L * topL L1 o0.x, L * topL L1 o0.y, L * topL L1 o0.z], tI [L * topL L1 o1.x, L * topL L1 o1.y, L * topL L1 o1.z], tI [L * topL L1 o2.x, L * topL L1 o2.y, L * topL L1 o2.z]]])) (E1.tu (A1.cons (E1.frz (E1.comp3 (d1 := tI (topR L p0)) (d2 := tI (topR L p1)) (d3 := tI (topR L p2)) (e1 := tI [L1 * topL L p0.x, L1 * topL L p0.y, L1 * topL L p0.z]) (e2 := tI [L1 * topL L p1.x, L1 * topL L p1.y, L1 * topL L p1.z]) (e3 := tI [L1 * topL L p2.x, L1 * topL L p2.y, L1 * topL L p2.z]) (Wk.lst (E1.ixT (E1.var rfl) E1.int rfl)) (E1.call (R := RTms) (ds := [.int L1, tI (topR L p0)]) (A1.cons (E1.ixT (E1.var rfl) E1.int rfl) (A1.cons (E1.var rfl) A1.nil)) ⟨L1, topL L p0.x, topL L p0.y, topL L p0.z, rfl, q0, (bL1.up (by decide)), rfl⟩) (E1.call (R := RTms) (ds := [.int L1, tI (topR L p1)]) (A1.cons (E1.ixT (E1.var rfl) E1.int rfl) (A1.cons (E1.var rfl) A1.nil)) ⟨L1, topL L p1.x, topL L p1.y, topL L p1.z, rfl, q1, (bL1.up (by decide)), rfl⟩) (E1.call (R := RTms) (ds := [.int L1, tI (topR L p2)]) (A1.cons (E1.ixT (E1.var rfl) E1.int rfl) (A1.cons (E1.var rfl) A1.nil)) ⟨L1, topL L p2.x, topL L p2.y, topL L p2.z, rfl, q2, (bL1.up (by decide)), rfl⟩))) (A1.cons (E1.frz (E1.comp3 (d1 := tI (topR L1 o0)) (d2 := tI (topR L1 o1)) (d3 := tI (topR L1 o2)) (e1 := tI [L * topL L1 o0.x, L * topL L1 o0.y, L * topL L1 o0.z]) (e2 := tI [L * topL L1 o1.x, L * topL L1 o1.y, L * topL L1 o1.z]) (e3 := tI [L * topL L1 o2.x, L * topL L1 o2.y, L * topL L1 o2.z]) (Wk.lst (E1.ixT (E1.var rfl) E1.int rfl)) (E1.call (R := RTms) (ds := [.int L, tI (topR L1 o0)]) (A1.cons (E1.ixT (E1.var rfl) E1.int rfl) (A1.cons (E1.var rfl) A1.nil)) ⟨L, topL L1 o0.x, topL L1 o0.y, topL L1 o0.z, rfl, s0, (bL.up (by decide)), rfl⟩) (E1.call (R := RTms) (ds := [.int L, tI (topR L1 o1)]) (A1.cons (E1.ixT (E1.var rfl) E1.int rfl) (A1.cons (E1.var rfl) A1.nil)) ⟨L, topL L1 o1.x, topL L1 o1.y, topL L1 o1.z, rfl, s1, (bL.up (by decide)), rfl⟩) (E1.call (R := RTms) (ds := [.int L, tI (topR L1 o2)]) (A1.cons (E1.ixT (E1.var rfl) E1.int rfl) (A1.cons (E1.var rfl) A1.nil)) ⟨L, topL L1 o2.x, topL L1 o2.y, topL L1 o2.z, rfl, s2, (bL.up (by decide)), rfl⟩))) A1.nil)) rfl (lsz (n := 2) rfl z2)) ⟨_, ⟨L * L1, L1 * topL L p0.x, L1 * topL L p0.y, L1 * topL L p0.z, L1 * topL L p1.x, L1 * topL L p1.y, L1 * topL L p1.z, L1 * topL L p2.x, L1 * topL L p2.y, L1 * topL L p2.z, L * topL L1 o0.x, L * topL L1 o0.y, L * topL L1 o0.z, L * topL L1 o1.x, L * topL L1 o1.y, L * topL L1 o1.z, L * topL L1 o2.x, L * topL L1 o2.y, L * topL L1 o2.z, rfl, Int.mul_pos L0 L10, (wh_top B0 L0 L10 LB bL1 tp.1 (Ld p0.x (by simp)) (Ld p0.y (by simp)) (Ld p0.z (by simp)) (by decide)), (wh_top B0 L0 L10 LB bL1 tp.2.1 (Ld p1.x (by simp)) (Ld p1.y (by simp)) (Ld p1.z (by simp)) (by decide)), (wh_top B0 L0 L10 LB bL1 tp.2.2 (Ld p2.x (by simp)) (Ld p2.y (by simp)) (Ld p2.z (by simp)) (by decide)), wh_swap (wh_top B10 L10 L0 LB1 bL to.1 (Ld1 o0.x (by simp)) (Ld1 o0.y (by simp)) (Ld1 o0.z (by simp)) (by decide)), wh_swap (wh_top B10 L10 L0 LB1 bL to.2.1 (Ld1 o1.x (by simp)) (Ld1 o1.y (by simp)) (Ld1 o1.z (by simp)) (by decide)), wh_swap (wh_top B10 L10 L0 LB1 bL to.2.2 (Ld1 o2.x (by simp)) (Ld1 o2.y (by simp)) (Ld1 o2.z (by simp)) (by decide))⟩, rfl⟩
theorem scLedT : FnScope ["points", "others", "rows", "ways", "other_ways", "pair", "way", "other_way", "four"] ["points", "others"] (defScope sLedT) := ⟨rfl, rfl, rfl, by decide +kernel, rfl, by decide +kernel, by decide +kernel⟩
theorem ok_ledt (F : Fun K "led_three" "led_three" sLedT f fd)
    (G : FnOk P w K mg base CX0 5 g gd ["points", "others"] (spX K ROne)) (bG : Binds K gd ["points", "others"] []) (kG : PySem.W.keepIn K (.ref g) = true) (mG : mg "on_one_level" = some (.ref g))
    (G2 : FnOk P w K mg base CX0 1 g2 gd2 ["one", "other"] (spP K RRdif)) (bG2 : Binds K gd2 ["one", "other"] []) (kG2 : PySem.W.keepIn K (.ref g2) = true) (mG2 : mg "row_difference" = some (.ref g2))
    (G3 : FnOk P w K mg base CX0 2 g3 gd3 ["way"] (spP K RSz)) (bG3 : Binds K gd3 ["way"] []) (kG3 : PySem.W.keepIn K (.ref g3) = true) (mG3 : mg "size_of" = some (.ref g3))
    (G4 : FnOk P w K mg base CX0 5 g4 gd4 ["first", "second", "third", "fourth"] (spQ K RTb)) (bG4 : Binds K gd4 ["first", "second", "third", "fourth"] []) (kG4 : PySem.W.keepIn K (.ref g4) = true) (mG4 : mg "turn_between" = some (.ref g4))
    (G5 : FnOk P w K mg base CX0 4 g5 gd5 ["four", "one", "other"] (spP K RShift)) (bG5 : Binds K gd5 ["four", "one", "other"] []) (kG5 : PySem.W.keepIn K (.ref g5) = true) (mG5 : mg "shift_to" = some (.ref g5))
    (G6 : FnOk P w K mg base CX0 3 g6 gd6 ["fractions"] (spP K RLev)) (bG6 : Binds K gd6 ["fractions"] []) (kG6 : PySem.W.keepIn K (.ref g6) = true) (mG6 : mg "levelled" = some (.ref g6)) (m_zip : mg "zip" = none) (m_PAIRS : mg "PAIRS" = some (.ref dPAIRS)) (t_PAIRS : TupTT K dPAIRS pairs3) :
    FnOk P w K mg base CX0 6 f fd ["points", "others"] (spQ K RLedT) := by
  refine okQ F scLedT (fun ds d h => ?_) (fun cdv A0 outer s0 H0 E0 hr => ?_)
  . obtain ⟨b, b1, p0, p1, p2, o0, o1, o2, rfl, _⟩ := h; rfl
  have r := hr.mono (show 5 <= 5 by decide)
  have r2 := hr.mono (show 1 <= 5 by decide)
  have r3 := hr.mono (show 2 <= 5 by decide)
  have r4 := hr.mono (show 5 <= 5 by decide)
  have r5 := hr.mono (show 4 <= 5 by decide)
  have r6 := hr.mono (show 3 <= 5 by decide)
  refine ⟨_, (zss_cons (zs_set (i := 2) scLedT.nd rfl (Or.inr rfl) (ze_call G r rfl mG kG bG .nil pass0 (za_n (zv 0) (za_n (zv 1) za_nil))))
    (zss_cons (zs_comp (i := 3) (own := ["pair"]) scLedT rfl ⟨by decide +kernel, rfl, by decide +kernel, by decide +kernel, by decide +kernel, by decide +kernel, by decide +kernel, by decide +kernel, by decide +kernel⟩ (zi_tup (ze_glob (v := .ref dPAIRS) rfl m_PAIRS rfl)) (fun C fp s H nd => zg_name (i := 0) nd rfl (Or.inl rfl)) (fun C fp s H => zts_nil) (fun C fp s H => (ze_call G2 r2 rfl mG2 kG2 bG2 .nil pass0 (za_s (ze_ix ix_listC (ze_ix ix_tupC (zv 3) ze_int (fun _ _ => rfl)) (ze_ix ix_tupC (zv 0) ze_int (fun _ _ => rfl)) (fun _ _ => rfl)) (za_s (ze_ix ix_listC (ze_ix ix_tupC (zv 3) ze_int (fun _ _ => rfl)) (ze_ix ix_tupC (zv 0) ze_int (fun _ _ => rfl)) (fun _ _ => rfl)) za_nil)))) scLedT.nd rfl (Or.inl rfl) rfl)
    (zss_cons (zs_comp (i := 4) (own := ["pair"]) scLedT rfl ⟨by decide +kernel, rfl, by decide +kernel, by decide +kernel, by decide +kernel, by decide +kernel, by decide +kernel, by decide +kernel, by decide +kernel⟩ (zi_tup (ze_glob (v := .ref dPAIRS) rfl m_PAIRS rfl)) (fun C fp s H nd => zg_name (i := 0) nd rfl (Or.inl rfl)) (fun C fp s H => zts_nil) (fun C fp s H => (ze_call G2 r2 rfl mG2 kG2 bG2 .nil pass0 (za_s (ze_ix ix_listC (ze_ix ix_tupC (zv 3) ze_int (fun _ _ => rfl)) (ze_ix ix_tupC (zv 0) ze_int (fun _ _ => rfl)) (fun _ _ => rfl)) (za_s (ze_ix ix_listC (ze_ix ix_tupC (zv 3) ze_int (fun _ _ => rfl)) (ze_ix ix_tupC (zv 0) ze_int (fun _ _ => rfl)) (fun _ _ => rfl)) za_nil)))) scLedT.nd rfl (Or.inl rfl) rfl)
    (zss_cons (zs_for PassesOwn.never rfl (zi_zip3 rfl m_zip (za_n (ze_glob (v := .ref dPAIRS) rfl m_PAIRS rfl) (za_n (zv 3) (za_n (zv 4) za_nil)))) (zg_tup rfl (zgs_cons (zg_name (i := 5) scLedT.nd rfl (Or.inl rfl)) (zgs_cons (zg_name (i := 6) scLedT.nd rfl (Or.inl rfl)) (zgs_cons (zg_name (i := 7) scLedT.nd rfl (Or.inl rfl)) zgs_nil)))) (zss_one (zs_if (zt_cmpR op_ne (ze_call G3 r3 rfl mG3 kG3 bG3 .nil pass0 (za_n (zv 6) za_nil)) (ze_call G3 r3 rfl mG3 kG3 bG3 .nil pass0 (za_n (zv 7) za_nil)) (nomark _)) (zss_one (zs_ret (ze_tup (za_cons ze_str (za_s (ze_ix ix_tup (zv 5) ze_int (fun _ _ => rfl)) (za_s (ze_ix ix_tup (zv 5) ze_int (fun _ _ => rfl)) za_nil)))))) zss_nil)))
    (zss_cons (zs_set (i := 8) scLedT.nd rfl (Or.inl rfl) (ze_call G4 r4 rfl mG4 kG4 bG4 .nil pass0 (za_s (ze_ix ix_list (zv 3) ze_int (fun _ _ => rfl)) (za_s (ze_ix ix_list (zv 3) ze_int (fun _ _ => rfl)) (za_s (ze_ix ix_list (zv 4) ze_int (fun _ _ => rfl)) (za_s (ze_ix ix_list (zv 4) ze_int (fun _ _ => rfl)) za_nil))))))
    (zss_one (zs_ret (ze_tup (za_cons ze_str (za_t (ze_tup (za_n (zv 8) (za_c (ze_call G5 r5 rfl mG5 kG5 bG5 .nil pass0 (za_n (zv 8) (za_c (ze_call G6 r6 rfl mG6 kG6 bG6 .nil pass0 (za_s (ze_ix (IxR.or ix_list ix_tup) (zv 0) ze_int (fun _ _ => rfl)) za_nil)) (za_c (ze_call G6 r6 rfl mG6 kG6 bG6 .nil pass0 (za_s (ze_ix (IxR.or ix_list ix_tup) (zv 1) ze_int (fun _ _ => rfl)) za_nil)) za_nil)))) za_nil))) za_nil)))))))))), fun ds C h => ?_⟩
  obtain ⟨bb, b1, p0, p1, p2, o0, o1, o2, rfl, tp, to, n3, rfl⟩ := h
  refine S.letX (R := ROne) (ds := [sqD bb [p0.d, p1.d, p2.d], sqD b1 [o0.d, o1.d, o2.d]]) rfl (A1.cons (E1.var rfl) (A1.cons (E1.var rfl) A1.nil)) ⟨bb, b1, p0, p1, p2, o0, o1, o2, rfl, tp, to, rfl⟩ (fun g0 h9 => ?_)
  obtain ⟨M, a, b, c, d, e, f, g, h, i, a', b', c', d', e', f', k', h', i', eg, M0, w0, w1, w2, v0, v1, v2⟩ := h9
  subst eg
  have wp0 := wh_sub w0 w1
  have wo0 := wh_sub v0 v1
  have wp1 := wh_sub w0 w2
  have wo1 := wh_sub v0 v2
  have wp2 := wh_sub w1 w2
  have wo2 := wh_sub v1 v2
  have up : ∀ {l : List Int}, Bd (2 ^ (322 + 1)) l -> Bd (2 ^ 1000) l := fun h => bd_mono h (Nat.pow_le_pow_right (by decide) (by decide))
  refine S.let1 (s := .dat (.list [tI [d - a, e - b, f - c], tI [g - a, h - b, i - c], tI [g - d, h - e, i - f]])) (E1.frz (E1.comp3 (d1 := tI [0, 1]) (d2 := tI [0, 2]) (d3 := tI [1, 2]) (e1 := tI [d - a, e - b, f - c]) (e2 := tI [g - a, h - b, i - c]) (e3 := tI [g - d, h - e, i - f]) (Wk.tup (ds := [tI [0, 1], tI [0, 2], tI [1, 2]]) (E1.gTT t_PAIRS)) (E1.call (R := RRdif) (ds := [tI [d, e, f], tI [a, b, c]]) (A1.cons (E1.ixL (ds := [tI [a, b, c], tI [d, e, f], tI [g, h, i]]) (d := tI [d, e, f]) (E1.vwd (E1.ixT (d := .list [tI [a, b, c], tI [d, e, f], tI [g, h, i]]) (E1.var rfl) E1.int rfl)) (E1.ixT (E1.var rfl) E1.int rfl) rfl) (A1.cons (E1.ixL (ds := [tI [a, b, c], tI [d, e, f], tI [g, h, i]]) (d := tI [a, b, c]) (E1.vwd (E1.ixT (d := .list [tI [a, b, c], tI [d, e, f], tI [g, h, i]]) (E1.var rfl) E1.int rfl)) (E1.ixT (E1.var rfl) E1.int rfl) rfl) A1.nil)) ⟨d, e, f, a, b, c, rfl, rfl⟩) (E1.call (R := RRdif) (ds := [tI [g, h, i], tI [a, b, c]]) (A1.cons (E1.ixL (ds := [tI [a, b, c], tI [d, e, f], tI [g, h, i]]) (d := tI [g, h, i]) (E1.vwd (E1.ixT (d := .list [tI [a, b, c], tI [d, e, f], tI [g, h, i]]) (E1.var rfl) E1.int rfl)) (E1.ixT (E1.var rfl) E1.int rfl) rfl) (A1.cons (E1.ixL (ds := [tI [a, b, c], tI [d, e, f], tI [g, h, i]]) (d := tI [a, b, c]) (E1.vwd (E1.ixT (d := .list [tI [a, b, c], tI [d, e, f], tI [g, h, i]]) (E1.var rfl) E1.int rfl)) (E1.ixT (E1.var rfl) E1.int rfl) rfl) A1.nil)) ⟨g, h, i, a, b, c, rfl, rfl⟩) (E1.call (R := RRdif) (ds := [tI [g, h, i], tI [d, e, f]]) (A1.cons (E1.ixL (ds := [tI [a, b, c], tI [d, e, f], tI [g, h, i]]) (d := tI [g, h, i]) (E1.vwd (E1.ixT (d := .list [tI [a, b, c], tI [d, e, f], tI [g, h, i]]) (E1.var rfl) E1.int rfl)) (E1.ixT (E1.var rfl) E1.int rfl) rfl) (A1.cons (E1.ixL (ds := [tI [a, b, c], tI [d, e, f], tI [g, h, i]]) (d := tI [d, e, f]) (E1.vwd (E1.ixT (d := .list [tI [a, b, c], tI [d, e, f], tI [g, h, i]]) (E1.var rfl) E1.int rfl)) (E1.ixT (E1.var rfl) E1.int rfl) rfl) A1.nil)) ⟨g, h, i, d, e, f, rfl, rfl⟩))) ?_
  refine S.let1 (s := .dat (.list [tI [d' - a', e' - b', f' - c'], tI [k' - a', h' - b', i' - c'], tI [k' - d', h' - e', i' - f']])) (E1.frz (E1.comp3 (d1 := tI [0, 1]) (d2 := tI [0, 2]) (d3 := tI [1, 2]) (e1 := tI [d' - a', e' - b', f' - c']) (e2 := tI [k' - a', h' - b', i' - c']) (e3 := tI [k' - d', h' - e', i' - f']) (Wk.tup (ds := [tI [0, 1], tI [0, 2], tI [1, 2]]) (E1.gTT t_PAIRS)) (E1.call (R := RRdif) (ds := [tI [d', e', f'], tI [a', b', c']]) (A1.cons (E1.ixL (ds := [tI [a', b', c'], tI [d', e', f'], tI [k', h', i']]) (d := tI [d', e', f']) (E1.vwd (E1.ixT (d := .list [tI [a', b', c'], tI [d', e', f'], tI [k', h', i']]) (E1.var rfl) E1.int rfl)) (E1.ixT (E1.var rfl) E1.int rfl) rfl) (A1.cons (E1.ixL (ds := [tI [a', b', c'], tI [d', e', f'], tI [k', h', i']]) (d := tI [a', b', c']) (E1.vwd (E1.ixT (d := .list [tI [a', b', c'], tI [d', e', f'], tI [k', h', i']]) (E1.var rfl) E1.int rfl)) (E1.ixT (E1.var rfl) E1.int rfl) rfl) A1.nil)) ⟨d', e', f', a', b', c', rfl, rfl⟩) (E1.call (R := RRdif) (ds := [tI [k', h', i'], tI [a', b', c']]) (A1.cons (E1.ixL (ds := [tI [a', b', c'], tI [d', e', f'], tI [k', h', i']]) (d := tI [k', h', i']) (E1.vwd (E1.ixT (d := .list [tI [a', b', c'], tI [d', e', f'], tI [k', h', i']]) (E1.var rfl) E1.int rfl)) (E1.ixT (E1.var rfl) E1.int rfl) rfl) (A1.cons (E1.ixL (ds := [tI [a', b', c'], tI [d', e', f'], tI [k', h', i']]) (d := tI [a', b', c']) (E1.vwd (E1.ixT (d := .list [tI [a', b', c'], tI [d', e', f'], tI [k', h', i']]) (E1.var rfl) E1.int rfl)) (E1.ixT (E1.var rfl) E1.int rfl) rfl) A1.nil)) ⟨k', h', i', a', b', c', rfl, rfl⟩) (E1.call (R := RRdif) (ds := [tI [k', h', i'], tI [d', e', f']]) (A1.cons (E1.ixL (ds := [tI [a', b', c'], tI [d', e', f'], tI [k', h', i']]) (d := tI [k', h', i']) (E1.vwd (E1.ixT (d := .list [tI [a', b', c'], tI [d', e', f'], tI [k', h', i']]) (E1.var rfl) E1.int rfl)) (E1.ixT (E1.var rfl) E1.int rfl) rfl) (A1.cons (E1.ixL (ds := [tI [a', b', c'], tI [d', e', f'], tI [k', h', i']]) (d := tI [d', e', f']) (E1.vwd (E1.ixT (d := .list [tI [a', b', c'], tI [d', e', f'], tI [k', h', i']]) (E1.var rfl) E1.int rfl)) (E1.ixT (E1.var rfl) E1.int rfl) rfl) A1.nil)) ⟨k', h', i', d', e', f', rfl, rfl⟩))) ?_
  refine S.seq (M := fun τ' => (d2 p0 p1 = d2 o0 o1 /\ d2 p0 p2 = d2 o0 o2 /\ d2 p1 p2 = d2 o1 o2) /\ ∃ o5 o6 o7 o8 : Sl, τ' = [.dat (sqD bb [p0.d, p1.d, p2.d]), .dat (sqD b1 [o0.d, o1.d, o2.d]), .dat (.tuple [.list [tI [a, b, c], tI [d, e, f], tI [g, h, i]], .list [tI [a', b', c'], tI [d', e', f'], tI [k', h', i']]]), .dat (.list [tI [d - a, e - b, f - c], tI [g - a, h - b, i - c], tI [g - d, h - e, i - f]]), .dat (.list [tI [d' - a', e' - b', f' - c'], tI [k' - a', h' - b', i' - c'], tI [k' - d', h' - e', i' - f']]), o5, o6, o7, o8]) ?_ fun τ' ⟨hZ, o5, o6, o7, o8, eτ⟩ => ?_
  . refine S.for (ds := [.tuple [tI [0, 1], tI [d - a, e - b, f - c], tI [d' - a', e' - b', f' - c']], .tuple [tI [0, 2], tI [g - a, h - b, i - c], tI [k' - a', h' - b', i' - c']], .tuple [tI [1, 2], tI [g - d, h - e, i - f], tI [k' - d', h' - e', i' - f']]]) (Wk.zip3 (A1.cons (E1.gTT t_PAIRS) (A1.cons (E1.var rfl) (A1.cons (E1.var rfl) A1.nil)))) (fun k τ' => tw (d2 p0 p1 = d2 o0 o1) (d2 p0 p2 = d2 o0 o2) (d2 p1 p2 = d2 o1 o2) k /\ ∃ o5 o6 o7 o8 : Sl, τ' = [.dat (sqD bb [p0.d, p1.d, p2.d]), .dat (sqD b1 [o0.d, o1.d, o2.d]), .dat (.tuple [.list [tI [a, b, c], tI [d, e, f], tI [g, h, i]], .list [tI [a', b', c'], tI [d', e', f'], tI [k', h', i']]]), .dat (.list [tI [d - a, e - b, f - c], tI [g - a, h - b, i - c], tI [g - d, h - e, i - f]]), .dat (.list [tI [d' - a', e' - b', f' - c'], tI [k' - a', h' - b', i' - c'], tI [k' - d', h' - e', i' - f']]), o5, o6, o7, o8]) ⟨trivial, _, _, _, _, rfl⟩ (fun k dd τ1 hd ⟨hI, o5, o6, o7, o8, e1⟩ => ?_) (fun τ1 h => h)
    subst e1
    rcases get3 hd with ⟨rfl, rfl⟩ | ⟨rfl, rfl⟩ | ⟨rfl, rfl⟩
    . refine ⟨_, Gd.tri (x := tI [0, 1]) (y := tI [d - a, e - b, f - c]) (z := tI [d' - a', e' - b', f' - c']), ?_⟩
      refine S.if1 (b := !decide (sop [d - a, e - b, f - c] [d - a, e - b, f - c] = sop [d' - a', e' - b', f' - c'] [d' - a', e' - b', f' - c'])) (T1.test (E1.ne (E1.call (R := RSz) (ds := [tI [d - a, e - b, f - c]]) (A1.cons (E1.var rfl) A1.nil) ⟨d - a, e - b, f - c, rfl, up wp0.b, rfl⟩) (E1.call (R := RSz) (ds := [tI [d' - a', e' - b', f' - c']]) (A1.cons (E1.var rfl) A1.nil) ⟨d' - a', e' - b', f' - c', rfl, up wo0.b, rfl⟩))) (fun hh => ?_) (fun hh => ?_)
      . have hne : d2 p0 p1 ≠ d2 o0 o1 := fun z => ne_of_b hh ((size_iff M0 wp0 wo0).mpr z)
        exact S.ret1 (s := .dat (noD 0 1)) (E1.tu (A1.cons E1.str (A1.cons (E1.ixT (E1.var rfl) E1.int rfl) (A1.cons (E1.ixT (E1.var rfl) E1.int rfl) A1.nil))) rfl (lsz (n := 3) rfl z3)) ⟨_, .a  hne, rfl, rfl⟩
      . have hz : d2 p0 p1 = d2 o0 o1 := (size_iff M0 wp0 wo0).mp (eq_of_b hh)
        exact S.next ⟨hz, _, _, _, _, rfl⟩
    . refine ⟨_, Gd.tri (x := tI [0, 2]) (y := tI [g - a, h - b, i - c]) (z := tI [k' - a', h' - b', i' - c']), ?_⟩
      refine S.if1 (b := !decide (sop [g - a, h - b, i - c] [g - a, h - b, i - c] = sop [k' - a', h' - b', i' - c'] [k' - a', h' - b', i' - c'])) (T1.test (E1.ne (E1.call (R := RSz) (ds := [tI [g - a, h - b, i - c]]) (A1.cons (E1.var rfl) A1.nil) ⟨g - a, h - b, i - c, rfl, up wp1.b, rfl⟩) (E1.call (R := RSz) (ds := [tI [k' - a', h' - b', i' - c']]) (A1.cons (E1.var rfl) A1.nil) ⟨k' - a', h' - b', i' - c', rfl, up wo1.b, rfl⟩))) (fun hh => ?_) (fun hh => ?_)
      . have hne : d2 p0 p2 ≠ d2 o0 o2 := fun z => ne_of_b hh ((size_iff M0 wp1 wo1).mpr z)
        exact S.ret1 (s := .dat (noD 0 2)) (E1.tu (A1.cons E1.str (A1.cons (E1.ixT (E1.var rfl) E1.int rfl) (A1.cons (E1.ixT (E1.var rfl) E1.int rfl) A1.nil))) rfl (lsz (n := 3) rfl z3)) ⟨_, .b hI hne, rfl, rfl⟩
      . have hz : d2 p0 p2 = d2 o0 o2 := (size_iff M0 wp1 wo1).mp (eq_of_b hh)
        exact S.next ⟨⟨hI, hz⟩, _, _, _, _, rfl⟩
    . refine ⟨_, Gd.tri (x := tI [1, 2]) (y := tI [g - d, h - e, i - f]) (z := tI [k' - d', h' - e', i' - f']), ?_⟩
      refine S.if1 (b := !decide (sop [g - d, h - e, i - f] [g - d, h - e, i - f] = sop [k' - d', h' - e', i' - f'] [k' - d', h' - e', i' - f'])) (T1.test (E1.ne (E1.call (R := RSz) (ds := [tI [g - d, h - e, i - f]]) (A1.cons (E1.var rfl) A1.nil) ⟨g - d, h - e, i - f, rfl, up wp2.b, rfl⟩) (E1.call (R := RSz) (ds := [tI [k' - d', h' - e', i' - f']]) (A1.cons (E1.var rfl) A1.nil) ⟨k' - d', h' - e', i' - f', rfl, up wo2.b, rfl⟩))) (fun hh => ?_) (fun hh => ?_)
      . have hne : d2 p1 p2 ≠ d2 o1 o2 := fun z => ne_of_b hh ((size_iff M0 wp2 wo2).mpr z)
        exact S.ret1 (s := .dat (noD 1 2)) (E1.tu (A1.cons E1.str (A1.cons (E1.ixT (E1.var rfl) E1.int rfl) (A1.cons (E1.ixT (E1.var rfl) E1.int rfl) A1.nil))) rfl (lsz (n := 3) rfl z3)) ⟨_, .c hI.1 hI.2 hne, rfl, rfl⟩
      . have hz : d2 p1 p2 = d2 o1 o2 := (size_iff M0 wp2 wo2).mp (eq_of_b hh)
        exact S.next ⟨⟨hI.1, hI.2, hz⟩, _, _, _, _, rfl⟩
  subst eτ
  obtain ⟨e1, e2, e3⟩ := hZ
  refine S.letC (E.callQ (R := RTb) (ds := [tI [d - a, e - b, f - c], tI [g - a, h - b, i - c], tI [d' - a', e' - b', f' - c'], tI [k' - a', h' - b', i' - c']]) (A1.cons (E1.ixL (ds := [tI [d - a, e - b, f - c], tI [g - a, h - b, i - c], tI [g - d, h - e, i - f]]) (d := tI [d - a, e - b, f - c]) (E1.varL rfl) E1.int rfl) (A1.cons (E1.ixL (ds := [tI [d - a, e - b, f - c], tI [g - a, h - b, i - c], tI [g - d, h - e, i - f]]) (d := tI [g - a, h - b, i - c]) (E1.varL rfl) E1.int rfl) (A1.cons (E1.ixL (ds := [tI [d' - a', e' - b', f' - c'], tI [k' - a', h' - b', i' - c'], tI [k' - d', h' - e', i' - f']]) (d := tI [d' - a', e' - b', f' - c']) (E1.varL rfl) E1.int rfl) (A1.cons (E1.ixL (ds := [tI [d' - a', e' - b', f' - c'], tI [k' - a', h' - b', i' - c'], tI [k' - d', h' - e', i' - f']]) (d := tI [k' - a', h' - b', i' - c']) (E1.varL rfl) E1.int rfl) A1.nil)))) ⟨d - a, e - b, f - c, g - a, h - b, i - c, d' - a', e' - b', f' - c', k' - a', h' - b', i' - c', rfl, wp0.b, wp1.b, wo0.b, wo1.b, gram_of e1 e2 e3 wp0 wp1 wo0 wo1, cx_ne_of M0 wp0 wp1 n3, rfl⟩) (fun s ⟨_, e, _⟩ => by rw [e]; rfl) fun s ⟨g9, es, w, x, y, z, eg, nz, pp, bd, t1, t2⟩ => ?_
  subst es eg
  obtain ⟨B, B0, bB, fp⟩ := tp
  obtain ⟨B1, B10, bB1, fo⟩ := to
  have pb0 := fp.1.pb B0 bB
  have pb1 := fo.1.pb B10 bB1
  exact S.ret1 (s := .dat (onD w x y z (o0.x + -Q1 w x y z p0.x p0.y p0.z) (o0.y + -Q2 w x y z p0.x p0.y p0.z) (o0.z + -Q3 w x y z p0.x p0.y p0.z))) (E1.tu (A1.cons E1.str (A1.cons (E1.tu (A1.cons (E1.var rfl) (A1.cons (E1.call (R := RShift) (ds := [tI [w, x, y, z], lev p0.x p0.y p0.z, lev o0.x o0.y o0.z]) (A1.cons (E1.var rfl) (A1.cons (E1.call (R := RLev) (ds := [p0.d]) (A1.cons (E1.ixB (b := bb) (ds := [p0.d, p1.d, p2.d]) (d := p0.d) (E1.var rfl) E1.int rfl) A1.nil) ⟨_, p0.x, p0.y, p0.z, rfl, pb0, by decide, rfl⟩) (A1.cons (E1.call (R := RLev) (ds := [o0.d]) (A1.cons (E1.ixB (b := b1) (ds := [o0.d, o1.d, o2.d]) (d := o0.d) (E1.var rfl) E1.int rfl) A1.nil) ⟨_, o0.x, o0.y, o0.z, rfl, pb1, by decide, rfl⟩) A1.nil))) ⟨1000, 129, 193, w, x, y, z, _, _, _, _, _, _, _, _, p0.x, p0.y, p0.z, o0.x, o0.y, o0.z, rfl, nz, bd, lev_lb pb0, lev_lb pb1, by decide, by decide, by decide, by decide, rfl⟩) A1.nil)) rfl (lsz (n := 2) rfl z2)) A1.nil)) rfl (lsz (n := 2) rfl z2)) ⟨_, .only e1 e2 e3 ⟨nz, pp, bd, tnq_of M0 nz wp0 wo0 t1, tnq_of M0 nz wp1 wo1 t2, rfl, rfl, rfl⟩, rfl, rfl⟩
theorem scShiftTo : FnScope ["four", "one", "other"] ["four", "one", "other"] (defScope sShiftTo) := ⟨rfl, rfl, rfl, by decide +kernel, rfl, by decide +kernel, by decide +kernel⟩
theorem ok_shiftto (F : Fun K "shift_to" "shift_to" sShiftTo f fd)
    (G : FnOk P w K mg base CX0 3 g gd ["level"] (spP K RLow)) (bG : Binds K gd ["level"] []) (kG : PySem.W.keepIn K (.ref g) = true) (mG : mg "lowered" = some (.ref g))
    (G2 : FnOk P w K mg base CX0 1 g2 gd2 ["one", "other"] (spP K RLAdd)) (bG2 : Binds K gd2 ["one", "other"] []) (kG2 : PySem.W.keepIn K (.ref g2) = true) (mG2 : mg "levels_added" = some (.ref g2))
    (G3 : FnOk P w K mg base CX0 2 g3 gd3 ["level"] (spP K RLNeg)) (bG3 : Binds K gd3 ["level"] []) (kG3 : PySem.W.keepIn K (.ref g3) = true) (mG3 : mg "level_negated" = some (.ref g3))
    (G4 : FnOk P w K mg base CX0 3 g4 gd4 ["four", "level"] (spLT K)) (bG4 : Binds K gd4 ["four", "level"] []) (kG4 : PySem.W.keepIn K (.ref g4) = true) (mG4 : mg "level_turned" = some (.ref g4)) :
    FnOk P w K mg base CX0 4 f fd ["four", "one", "other"] (spP K RShift) := by
  refine okP F scShiftTo (fun ds d h => ?_) (fun cdv A0 outer s0 H0 E0 hr => ?_)
  . obtain ⟨m, c, k, a, b, d, e, T1, T2, T3, C, S1, S2, S3, B, x, y, z, u, v, w, rfl, _⟩ := h; rfl
  have r := hr.mono (show 3 <= 3 by decide)
  have r2 := hr.mono (show 1 <= 3 by decide)
  have r3 := hr.mono (show 2 <= 3 by decide)
  have r4 := hr.mono (show 3 <= 3 by decide)
  refine ⟨_, (zss_one (zs_ret (ze_call G r rfl mG kG bG .nil pass0 (za_c (ze_call G2 r2 rfl mG2 kG2 bG2 .nil pass0 (za_n (zv 2) (za_c (ze_call G3 r3 rfl mG3 kG3 bG3 .nil pass0 (za_c (ze_call G4 r4 rfl mG4 kG4 bG4 .nil pass0 (za_n (zv 0) (za_n (zv 1) za_nil))) za_nil)) za_nil))) za_nil)))), fun ds d h => ?_⟩
  obtain ⟨m, c, k, a, b, d, e, T1, T2, T3, C, S1, S2, S3, B, x, y, z, u, v, w, rfl, nz, bd, l1, l2, hm, hc, hk, hs, rfl⟩ := h
  have t1 := (l1.turned nz bd).neg
  have up : ∀ {c' : Nat} {T1 T2 T3 C : Int} {x y z : Rat}, LB c' T1 T2 T3 C x y z -> c' <= 4400 -> LB 4400 T1 T2 T3 C x y z := fun h hh => ⟨h.pos, h.bc.up hh, h.b1.up hh, h.b2.up hh, h.b3.up hh, h.e1, h.e2, h.e3⟩
  refine S.ret1 (s := .dat (ptQ (u + -Q1 a b d e x y z) (v + -Q2 a b d e x y z) (w + -Q3 a b d e x y z))) ?_ ⟨rfl, rfl⟩
  exact E1.call (R := RLow) (A1.cons (E1.call (R := RLAdd) (A1.cons (E1.var rfl) (A1.cons (E1.call (R := RLNeg) (A1.cons (E1.cLT (c := c) (m := m) (x := x) (y := y) (z := z) (A1.cons (E1.var rfl) (A1.cons (E1.var rfl) A1.nil)) bd l1 hm hc) A1.nil) ⟨_, _, _, _, rfl, rfl⟩) A1.nil)) ⟨4400, _, _, _, _, _, _, _, _, _, _, _, _, _, _, rfl, up l2 hk, up t1 hs, by decide, rfl⟩) A1.nil) ⟨_, _, _, _, _, _, _, _, rfl, l2.add t1, by omega, rfl⟩
theorem scMixed : FnScope ["_law_cell", "_law_k", "_law_number_here"] ["_law_cell", "_law_k"] (defScope sMixed) := ⟨rfl, rfl, rfl, by decide +kernel, rfl, by decide +kernel, by decide +kernel⟩
theorem ok_mixed (F : Fun K "_law_mixed" "_law_mixed" sMixed f fd) : FnOk P w K mg base CX0 1 f fd ["_law_cell", "_law_k"] spMixed := by
  refine F.okZ scMixed (fun vs H Q E h => ?_) (fun cdv A outer s H vs Q E hr h => ?_)
  . obtain ⟨c, k, rfl, _⟩ := h; rfl
  obtain ⟨c, k, rfl, hb, k0, k1, q⟩ := h
  refine ⟨_, zss_cons (zs_set (i := 2) scMixed.nd rfl (Or.inl rfl) (ze_op op_mod (ze_op op_mul (ze_op op_add (ze_op op_add (ze_op op_add (ze_op op_mulB (zv 0) (zv 0)) (ze_op op_mul ze_int (zv 0))) (ze_op op_mul ze_int (zv 1))) ze_int) ze_int) ze_int))
    (zss_one (zs_ret (ze_op op_mod (ze_op op_add (ze_op op_mul (zv 2) (zv 2)) ze_int) ze_int))), ?_⟩
  refine ⟨_, rfl, _, rfl, c, c, rfl, rfl, IntMulOk.of_bits hb hb, _, rfl, _, _, rfl, rfl, .inl ⟨by decide, by decide⟩, _, _, rfl, rfl, _, rfl, _, _, rfl, rfl, .inl ⟨by decide, by decide⟩, _, _, rfl, rfl, _, _, rfl, rfl, _, _, rfl, rfl, .inr ⟨by decide, by decide⟩, _, _, rfl, rfl, (show (0 : Int) < 2147483629 by decide), ?_⟩
  have x0 : (0 : Int) <= ((c * c + 3 * c + 7919 * k + 1) * 48271) % 2147483629 := Int.emod_nonneg _ (by decide)
  have x1 : ((c * c + 3 * c + 7919 * k + 1) * 48271) % 2147483629 < (2147483629 : Int) := Int.emod_lt_of_pos _ (by decide)
  refine ⟨_, rfl, _, rfl, _, _, rfl, rfl, .inl ⟨Int.lt_of_lt_of_le (by decide) x0, Int.lt_trans x1 (by decide)⟩, _, _, rfl, rfl, _, _, rfl, rfl, (show (0 : Int) < 2147483587 by decide), ?_⟩
  exact q _ (Int.emod_nonneg _ (by decide)) (Int.emod_lt_of_pos _ (by decide))
theorem scPurse : FnScope ["_law_script", "_law_cells", "_law_number_here", "_law_k"] ["_law_script"] (defScope sPurse) := ⟨rfl, rfl, rfl, by decide +kernel, rfl, by decide +kernel, by decide +kernel⟩
theorem ok_purse (F : Fun K "_law_purse" "_law_purse" sPurse f fd) (G : FnOk P w K mg base CX0 1 g gd ["_law_cell", "_law_k"] spMixed) (bG : Binds K gd ["_law_cell", "_law_k"] []) (kG : PySem.W.keepIn K (.ref g) = true) (mG : mg "_law_mixed" = some (.ref g))
    (ml : mg "len" = none) (ma : mg "abs" = none) (mr : mg "range" = none) : FnOk P w K mg base CX0 2 f fd ["_law_script"] (spPurse K) := by
  refine F.okZ scPurse (fun vs H Q E h => ?_) (fun cdv A outer s H vs Q E hr h => ?_)
  . obtain ⟨a, ns, rfl, _⟩ := h; rfl
  obtain ⟨a, ns, rfl, hS, hl, hb, q⟩ := h
  refine ⟨_, zss_cons (zs_set (i := 1) scPurse.nd rfl (Or.inl rfl) (ze_op op_cat (ze_slice sl_list (zv 0) zo_none (zo_some ze_int)) (ze_lst (za_cons ze_int za_nil))))
    (zss_cons (zs_set (i := 2) scPurse.nd rfl (Or.inl rfl) ze_int)
    (zss_cons (zs_for PassesOwn.never rfl (zi_range1 rfl mr (za_cons ze_int za_nil)) (zg_name (i := 3) scPurse.nd rfl (Or.inl rfl)) (zss_one (zs_set (i := 2) scPurse.nd rfl (Or.inl rfl)
      (ze_op op_add (ze_op op_mul (zv 2) ze_int) (ze_call G hr rfl mG kG bG .nil pass0 (za_cons (ze_ix ix_list (zv 1) (ze_op op_mod (zv 3) (ze_callB call_len_seq rfl ml PySem.boot_len (za_cons (zv 1) za_nil))) (fun _ _ => rfl)) (za_cons (zv 3) za_nil)))))))
    (zss_cons (zs_if (zt_cmpR op_ge (ze_callB call_abs rfl ma (by rfl) (za_cons (ze_ix ix_list (zv 1) ze_int (fun _ _ => rfl)) za_nil)) (ze_op op_pow ze_int ze_int) (nomark _))
      (zss_one (zs_ret (ze_lst (za_cons (ze_callB call_abs rfl ma (by rfl) (za_cons (ze_ix ix_list (zv 1) ze_int (fun _ _ => rfl)) za_nil)) (za_cons (zv 2) za_nil))))) zss_nil)
    (zss_one (zs_ret (ze_lst (za_cons (zv 2) (za_cons (zv 2) za_nil)))))))), ?_⟩
  refine ⟨_, rfl, 63, rfl, a, _, rfl, hS, fun p1 hp1 => ⟨(by show 1 <= sizeLine; decide), fun p2 hp2 => ?_⟩⟩
  rw [cut63 hl] at hp2 ⊢
  have s1 : Same H (upd H p1 (.lst (ns.map V.int))) := Same.new hp1 _
  have s2 := Same.new hp2 (.lst [V.int 0])
  refine ⟨p1, p2, ns.map V.int, [.int 0], rfl, rfl, s2 _ _ upd_same, upd_same, ?_, fun c hc => ?_⟩
  . rw [List.length_map]; exact Nat.le_of_lt (small1000 (by show ns.length + 1 <= 1000; omega))
  have s3 := Same.new hc (.lst (ns.map V.int ++ [V.int 0]))
  have cs : ns.map V.int ++ [V.int 0] = (ns ++ [0]).map V.int := by rw [List.map_append]; rfl
  have S := (s1.trans s2).trans s3
  have hcn : H c = none := (s1.trans s2).free hc
  have hC : SqL K (upd (upd (upd H p1 (.lst (ns.map V.int))) p2 (.lst [V.int 0])) c (.lst (ns.map V.int ++ [V.int 0]))) c ((ns ++ [0]).map V.int) := by rw [<- cs]; exact SqL.of upd_same
  generalize upd (upd (upd H p1 (.lst (ns.map V.int))) p2 (.lst [V.int 0])) c (.lst (ns.map V.int ++ [V.int 0])) = H3 at S hC ⊢
  have bits : ∀ v ∈ ns ++ [0], Builtin.Int.intBits v <= 2 ^ 20 := fun v hv => by
    rcases List.mem_append.mp hv with h | h
    . exact hb v h
    . have : v = 0 := by simpa using h
      subst this; decide
  generalize hcs : ns ++ [0] = cs at hC bits
  have lc : 0 < cs.length /\ cs.length <= 64 := by rw [<- hcs, List.length_append]; simp; omega
  refine ⟨64, rfl, by decide, by decide, for_range (n := 64) (fun i σ H' => H3 = H' /\ ∃ (x : Int) (k : Option V), σ = [some (.ref a), some (.ref c), some (.int x), k]) ⟨rfl, 1, _, rfl⟩ (fun i σ H' hi h => ?_) (fun σ H' h => ?_)⟩
  . obtain ⟨rfl, x, k, rfl⟩ := h
    have m0 : (0 : Int) <= (0 + (i : Int)) % (cs.length : Int) := Int.emod_nonneg _ (by omega)
    have m1 : (0 + (i : Int)) % (cs.length : Int) < (cs.length : Int) := Int.emod_lt_of_pos _ (by omega)
    generalize hj : (0 + (i : Int)) % (cs.length : Int) = j at m0 m1
    obtain ⟨c1, hc1, at1⟩ := at_draw m0 m1
    refine ⟨_, rfl, _, _, rfl, rfl, .inr ⟨by decide, by decide⟩, _, rfl, _, rfl, _, rfl, c, _, rfl, .inl hC, _, _, rfl, rfl, (show (0 : Int) < ((cs.map V.int).length : Nat) by rw [List.length_map]; omega), c, _, _, _, rfl, rfl, hC, ?_, _, rfl, c1, _, rfl, bits _ hc1, by omega, by omega, fun d _ _ => ?_⟩
    . rw [List.length_map, hj]; exact at1
    . exact ⟨_, _, rfl, rfl, rfl, _, _, rfl⟩
  . obtain ⟨rfl, x, k, rfl⟩ := h
    have hl0 : 0 < cs.length := lc.1
    have at0 : atI (cs.map V.int) 0 = some (.int cs[0]) := atI_nat (j := 0) (by rw [List.getElem?_map]; simp [hl0])
    refine ⟨_, rfl, c, _, _, _, rfl, rfl, hC, at0, _, rfl, _, _, rfl, rfl, ⟨by decide, by decide, by decide⟩, _, _, rfl, rfl, _, rfl, ?_⟩
    refine ite2 (fun c' => ?_) (fun c' => ?_)
    . refine ⟨_, rfl, c, _, _, _, rfl, rfl, hC, at0, _, rfl, _, rfl, (by show 2 <= sizeLine; decide), fun p hp => ?_⟩
      exact q p _ (S.free hp) (S.trans (Same.new hp _)) ⟨_, _, upd_same⟩
    . refine ⟨_, rfl, _, rfl, (by show 2 <= sizeLine; decide), fun p hp => ?_⟩
      exact q p _ (S.free hp) (S.trans (Same.new hp _)) ⟨_, _, upd_same⟩
theorem scDraw : FnScope ["_law_purse_here", "_law_out_of", "_law_drawn"] ["_law_purse_here", "_law_out_of"] (defScope sDraw) := ⟨rfl, rfl, rfl, by decide +kernel, rfl, by decide +kernel, by decide +kernel⟩
theorem ok_draw (F : Fun K "_law_draw" "_law_draw" sDraw f fd) : FnOk P w K mg base CX0 1 f fd ["_law_purse_here", "_law_out_of"] spDraw := by
  refine F.okZ scDraw (fun vs H Q E h => ?_) (fun cdv A outer s H vs Q E hr h => ?_)
  . obtain ⟨p, m, rfl, _⟩ := h; rfl
  obtain ⟨p, m, rfl, ⟨a, b, hp⟩, m0, m1, q⟩ := h
  refine ⟨_, zss_cons (zs_if (zt_cmpR op_eq (ze_ix ix_list (zv 0) ze_int (fun _ _ => rfl)) ze_int (nomark _)) (zss_one (zs_asg (ze_ix ix_list (zv 0) ze_int (fun _ _ => rfl)) (zg_sub (zv 0) ze_int set_list (fun _ => rfl)))) zss_nil)
    (zss_cons (zs_set (i := 2) scDraw.nd rfl (Or.inl rfl) (ze_op op_mod (ze_ix ix_list (zv 0) ze_int (fun _ _ => rfl)) (zv 1)))
    (zss_cons (zs_asg (ze_op op_fdivB (ze_ix ix_list (zv 0) ze_int (fun _ _ => rfl)) (zv 1)) (zg_sub (zv 0) ze_int set_list (fun _ => rfl)))
    (zss_one (zs_ret (zv 2))))), ?_⟩
  have rest : ∀ (a : Int) (H1 : Hp), SB p H H1 -> H1 p = some (.lst [.int a, .int b]) -> tSeq (tAsg (tOp (rI (fun x j => 0 < j) fun i j => V.int (i % j)) (tOp (rIxL K) (tVar 0) (tC (.int 0))) (tVar 1)) (gName 2))
      (tSeq (tAsg (tOp (rI CDivB fun i j => V.int (i.fdiv j)) (tOp (rIxL K) (tVar 0) (tC (.int 0))) (tVar 1)) (gSub (tVar 0) (tC (.int 0)) rSetL)) (tRet (tVar 2))) { nx := fun _ H' => Q .non H', rt := Q } [some (.ref p), some (.int m), none] H1 := by
    intro a H1 s1 h1
    refine ⟨_, rfl, p, _, _, _, rfl, rfl, SqL.of h1, rfl, _, rfl, a, m, rfl, rfl, m0, ?_⟩
    refine ⟨_, rfl, p, _, _, _, rfl, rfl, SqL.of h1, rfl, _, rfl, a, m, rfl, rfl, ⟨by omega, ?_⟩, _, rfl, p, _, _, 0, rfl, rfl, h1, rfl, _, rfl, ?_⟩
    . have : m.natAbs < 2 ^ 9000 := Nat.lt_of_lt_of_le (show m.natAbs < 2 ^ 200 by omega) (Nat.pow_le_pow_right (by decide) (by decide))
      exact (Nat.log2_lt (by omega)).mpr this
    . exact q _ _ (Int.emod_nonneg _ (by omega)) (Int.emod_lt_of_pos _ m0) (s1.trans SB.upd) ⟨_, _, upd_same⟩
  refine ⟨_, rfl, p, _, _, _, rfl, rfl, SqL.of hp, rfl, rfl, _, rfl, ?_⟩
  refine ite2 (fun c => ?_) (fun c => ?_)
  . refine ⟨_, rfl, p, _, _, _, rfl, rfl, SqL.of hp, rfl, _, rfl, p, _, _, 0, rfl, rfl, hp, rfl, ?_⟩
    exact rest b _ SB.upd upd_same
  . exact rest a H (SB.refl _ _) hp
theorem scWhole : FnScope ["_law_found"] ["_law_found"] (defScope sWhole) := ⟨rfl, rfl, rfl, by decide +kernel, rfl, by decide +kernel, by decide +kernel⟩
theorem ok_whole (F : Fun K "_law_whole" "_law_whole" sWhole f fd) (mi : mg "isinstance" = none) (mn : mg "int" = none) (mb : mg "bool" = none) :
    FnOk P w K mg base CX0 1 f fd ["_law_found"] spWhole := by
  refine F.okZ scWhole (fun vs H Q E h => ?_) (fun cdv A outer s H vs Q E hr h => ?_)
  . obtain ⟨n, rfl, _⟩ := h; rfl
  obtain ⟨n, rfl, q⟩ := h
  refine ⟨_, zss_one (zs_ret (ze_and (ze_callB (call_isi (b := true) (T := "int") (U := "int") (fun K => by rfl)) rfl mi (by rfl) (za_n (zv 0) (za_n (ze_tyn rfl mn (by rfl)) za_nil)))
    (ze_one (ze_not (ze_callB (call_isi (b := false) (T := "bool") (U := "int") (fun K => by rfl)) rfl mi (by rfl) (za_n (zv 0) (za_n (ze_tyn rfl mb (by rfl)) za_nil))))))), ?_⟩
  exact ⟨_, rfl, _, rfl, .int n, _, rfl, iteT ⟨_, rfl, _, rfl, .int n, _, rfl, q⟩⟩
theorem scDiv : FnScope ["_law_one", "_law_other"] ["_law_one", "_law_other"] (defScope sDiv) := ⟨rfl, rfl, rfl, by decide +kernel, rfl, by decide +kernel, by decide +kernel⟩
theorem ok_div (F : Fun K "_law_divisor" "_law_divisor" sDiv f fd) (ma : mg "abs" = none) :
    FnOk P w K mg base CX0 1 f fd ["_law_one", "_law_other"] spDiv := by
  refine F.okZ scDiv (fun vs H Q E h => ?_) (fun cdv A outer s H vs Q E hr h => ?_)
  . obtain ⟨a, b, rfl, _⟩ := h; rfl
  obtain ⟨a, b, rfl, q⟩ := h
  refine ⟨_, zss_cons (zs_set (i := 0) scDiv.nd rfl (Or.inl rfl) (ze_callB call_abs rfl ma (by rfl) (za_n (zv 0) za_nil)))
    (zss_cons (zs_set (i := 1) scDiv.nd rfl (Or.inl rfl) (ze_callB call_abs rfl ma (by rfl) (za_n (zv 1) za_nil)))
    (zss_cons (zs_while PassesOwn.never (zt_cmpR op_gt (zv 1) ze_int (nomark _)) (zss_one (zs_par (i := 0) (j := 1) rfl scDiv.nd rfl rfl (by decide) rfl rfl (za_n (zv 1) (za_b (ze_op op_mod (zv 0) (zv 1)) za_nil)) rfl)))
    (zss_one (zs_ret (zv 0))))), ?_⟩
  refine ⟨_, rfl, _, rfl, _, rfl, _, rfl, ?_⟩
  refine while_by (fun σ H' => H = H' /\ ∃ (c d : Int), 0 <= c /\ 0 <= d /\ Nat.gcd c.toNat d.toNat = Nat.gcd a.natAbs b.natAbs /\ σ = [some (.int c), some (.int d)])
    (fun σ _ => match σ with | [_, some (.int o)] => o.toNat | _ => 0) ⟨rfl, _, _, by split <;> omega, by split <;> omega, ?_, rfl⟩ (fun σ H' h => ?_) (fun σ H Q Q' hq h => ?_)
  . congr 1 <;> (split <;> omega)
  . obtain ⟨rfl, c, d, hc, hd, hg, rfl⟩ := h
    refine ⟨_, rfl, _, _, rfl, rfl, _, rfl, ?_⟩
    refine ite2 (fun z => ?_) (fun z => ?_)
    . have h0 : 0 < d := by simpa using z
      refine ⟨_, rfl, _, rfl, _, rfl, _, _, rfl, rfl, h0, _, _, rfl, ⟨rfl, _, _, hd, Int.emod_nonneg _ (by omega), ?_, rfl⟩, ?_⟩
      . rw [<- hg]; exact gcd_step hc h0
      . show (c % d).toNat < d.toNat
        have := Int.emod_lt_of_pos c h0
        have := Int.emod_nonneg c (show d ≠ 0 by omega)
        omega
    . have h0 : d = 0 := by
        have : ¬ 0 < d := fun y => z (by simpa using y)
        omega
      subst h0
      refine ⟨_, rfl, ?_⟩
      have e : (c.toNat : Int) = c := by omega
      rw [<- hg] at q
      simp only [Int.toNat_zero, Nat.gcd_zero_right, e] at q
      exact q
  . obtain ⟨v, e1, i, j, e2, e3, b, e4, q⟩ := h
    exact ⟨v, e1, i, j, e2, e3, b, e4, hq _ _ q⟩
theorem scLPlain4 : FnScope ["_law_four", "_law_by", "_law_number_here", "_law_first"] ["_law_four"] (defScope sLPlain4) := ⟨rfl, rfl, rfl, by decide +kernel, rfl, by decide +kernel, by decide +kernel⟩
theorem ok_lplain4 (F : Fun K "_law_plain" "_law_plain" sLPlain4 f fd)
    (G : FnOk P w K mg base CX0 1 g gd ["_law_one", "_law_other"] spDiv) (bG : Binds K gd ["_law_one", "_law_other"] []) (kG : PySem.W.keepIn K (.ref g) = true) (mG : mg "_law_divisor" = some (.ref g)) (m_tuple : mg "tuple" = none) :
    FnOk P w K mg base CX0 2 f fd ["_law_four"] (spT K (fun ns => (∃ n ∈ ns, n ≠ 0) /\ Sm ns) pl) := by
  refine F.okZ scLPlain4 (fun vs H Q E h => ?_) (fun cdv A outer s H vs Q E hr h => ?_)
  . obtain ⟨a, ns, rfl, _⟩ := h; rfl
  obtain ⟨a, ns, rfl, hS, hl, ⟨hnz, hsm⟩, q⟩ := h
  have r := hr.mono (show 1 <= 1 by decide)
  refine ⟨_, (zss_cons (zs_set (i := 1) scLPlain4.nd rfl (Or.inr rfl) ze_int)
    (zss_cons (zs_for PassesOwn.never rfl (zi_tup (zv 0)) (zg_name (i := 2) scLPlain4.nd rfl (Or.inl rfl)) (zss_one (zs_set (i := 1) scLPlain4.nd rfl (Or.inr rfl) (ze_call G r rfl mG kG bG .nil pass0 (za_n (zv 1) (za_n (zv 2) za_nil))))))
    (zss_cons (zs_set (i := 3) scLPlain4.nd rfl (Or.inl rfl) (ze_ix ix_list (ze_comp (own := ["_law_number_here"]) scLPlain4 rfl ⟨by decide +kernel, rfl, by decide +kernel, by decide +kernel, by decide +kernel, by decide +kernel, by decide +kernel, by decide +kernel, by decide +kernel⟩ (zi_tup (zv 0)) (fun C fp s H nd => zg_name (i := 0) nd rfl (Or.inl rfl)) (fun C fp s H => zts_one (zt_cmpR op_ne (zv 0) ze_int (nomark _))) (fun C fp s H => (zv 0))) ze_int (fun _ _ => rfl)) sw_sub)
    (zss_cons (zs_if (zt_cmpR op_lt (zv 3) ze_int (nomark _)) (zss_one (zs_set (i := 1) scLPlain4.nd rfl (Or.inr rfl) (ze_op op_sub ze_int (zv 1)))) zss_nil)
    (zss_one (zs_ret (ze_callTy call_tuple_of rfl m_tuple (by rfl) (za_cons (ze_comp (own := ["_law_number_here"]) scLPlain4 rfl ⟨by decide +kernel, rfl, by decide +kernel, by decide +kernel, by decide +kernel, by decide +kernel, by decide +kernel, by decide +kernel, by decide +kernel⟩ (zi_tup (zv 0)) (fun C fp s H nd => zg_name (i := 0) nd rfl (Or.inl rfl)) (fun C fp s H => zts_nil) (fun C fp s H => (ze_op op_fdivB (zv 0) (zv 2)))) za_nil)))))))), ?_⟩
  refine ⟨_, rfl, a, rfl, ⟨_, hS⟩, for_tup (xs := ns.map V.int) (fun i σ H' => H = H' /\ ∃ nn, σ = [some (.ref a), some (.int (gcdN (ns.take i))), nn, none])
    ⟨rfl, _, rfl⟩ (fun i σ H' _ h => h.1 ▸ hS) (fun i x σ H' hx h => ?_) (fun σ H' h => ?_)⟩
  . obtain ⟨rfl, nn, rfl⟩ := h
    rw [List.getElem?_map] at hx
    cases hn : ns[i]? with
    | none => rw [hn] at hx; cases hx
    | some n =>
      rw [hn] at hx
      cases hx
      refine ⟨_, rfl, _, rfl, _, _, rfl, rfl, some (.int n), ?_⟩
      have tk : ns.take (i + 1) = ns.take i ++ [n] := by rw [List.take_add_one, hn]; rfl
      rw [tk, gcdN_snoc]
      rfl
  obtain ⟨rfl, nn, rfl⟩ := h
  rw [List.length_map, List.take_length]
  refine ⟨_, rfl, a, rfl, ⟨_, hS⟩, ?_⟩
  refine comp_ifs (src_tup hS) (fun n => !decide (V.int n = V.int 0)) (Nat.le_of_lt (small1000 hl)) (fun n hn H' s R k => ?_) (fun n hn H' s R k => ?_) fun D H' s1 h n => ?_
  . exact ⟨_, rfl, rfl, _, rfl, k _ (Same.refl _)⟩
  . exact ⟨_, rfl, k _ (Same.refl _)⟩
  refine ⟨D, _, 0, _, rfl, rfl, SqL.of h, atI_nat (j := 0) (by rw [List.getElem?_map, first_at hnz]; rfl), ?_⟩
  dsimp only
  refine tSeq_cut (fun σ H4 => H' = H4 /\ σ = [some (.ref a), some (.int (unit ns)), nn, some (.int (fst0 ns))]) (fun N hN => ?_) (fun σ H4 h => ?_)
  . refine ⟨_, rfl, _, _, rfl, rfl, _, rfl, ?_⟩
    refine ite2 (fun z => ?_) (fun z => ?_)
    . have z : fst0 ns < 0 := by simpa using z
      refine ⟨_, rfl, _, _, rfl, rfl, hN _ _ ⟨rfl, ?_⟩⟩
      unfold unit
      rw [if_pos z]
      show [some (V.ref a), some (V.int (0 - (gcdN ns : Int))), nn, _] = _
      rw [Int.zero_sub]
    . have z : ¬ fst0 ns < 0 := fun y => z (by simpa using y)
      refine hN _ _ ⟨rfl, ?_⟩
      unfold unit
      rw [if_neg z]
      rfl
  . obtain ⟨rfl, rfl⟩ := h
    have S2 := s1.tup hS
    refine ⟨_, rfl, a, rfl, ⟨_, S2⟩, ?_⟩
    refine comp_ints (src_tup S2) (fun n => n / unit ns) (Nat.le_of_lt (small1000 hl)) (fun n hn H' s R k => ?_) fun D2 H2 s2 h2 n2 => ?_
    . refine ⟨_, rfl, _, rfl, _, _, rfl, rfl, ⟨unit_ne hnz, ?_⟩, ?_⟩
      . rw [unit_natAbs]
        have := gcd_small hnz hsm
        rwa [Int.natAbs_natCast] at this
      . dsimp only
        rw [Int.fdiv_eq_ediv_of_dvd (unit_dvd hn)]
        exact k _ (Same.refl _)
    . exact ⟨D2, _, rfl, .inl ⟨SqL.of h2, fun r hr' => q r _ (s1.trans (s2.trans (Same.new hr' _))) upd_same⟩⟩
theorem scMadeN : FnScope ["_law_top", "_law_bottom", "_law_by"] ["_law_top", "_law_bottom"] (defScope sMadeN) := ⟨rfl, rfl, rfl, by decide +kernel, rfl, by decide +kernel, by decide +kernel⟩
theorem scRowsp1 : FnScope ["_law_four", "_law_w", "_law_x", "_law_y", "_law_z", "_law_first", "_law_second"] ["_law_four"] (defScope sRowsp1) := ⟨rfl, rfl, rfl, by decide +kernel, rfl, by decide +kernel, by decide +kernel⟩
theorem ok_rowsp1 (F : Fun K "_law_rows" "_law_rows" sRowsp1 f fd) :
    FnOk P w K mg base CX0 1 f fd ["_law_four"] (spRows K) := by
  refine F.okZ scRowsp1 (fun vs H Q E h => ?_) (fun cdv A outer s H vs Q E hr h => ?_)
  . obtain ⟨x, a, b, c, d, rfl, _⟩ := h; rfl
  obtain ⟨x, a, b, c, d, rfl, hS, hB, q⟩ := h
  refine ⟨_, (zss_cons (zs_asg (zv 0) (zg_tup rfl (zgs_cons (zg_name (i := 1) scRowsp1.nd rfl (Or.inl rfl)) (zgs_cons (zg_name (i := 2) scRowsp1.nd rfl (Or.inl rfl)) (zgs_cons (zg_name (i := 3) scRowsp1.nd rfl (Or.inl rfl)) (zgs_cons (zg_name (i := 4) scRowsp1.nd rfl (Or.inl rfl)) zgs_nil))))))
    (zss_cons (zs_set (i := 5) scRowsp1.nd rfl (Or.inl rfl) (ze_tup (za_b (ze_op op_sub (ze_op op_sub (ze_op op_add (ze_op op_mulB (zv 1) (zv 1)) (ze_op op_mulB (zv 2) (zv 2))) (ze_op op_mulB (zv 3) (zv 3))) (ze_op op_mulB (zv 4) (zv 4))) (za_b (ze_op op_mulB ze_int (ze_op op_sub (ze_op op_mulB (zv 2) (zv 3)) (ze_op op_mulB (zv 1) (zv 4)))) (za_b (ze_op op_mulB ze_int (ze_op op_add (ze_op op_mulB (zv 2) (zv 4)) (ze_op op_mulB (zv 1) (zv 3)))) za_nil)))))
    (zss_cons (zs_set (i := 6) scRowsp1.nd rfl (Or.inl rfl) (ze_tup (za_b (ze_op op_mulB ze_int (ze_op op_add (ze_op op_mulB (zv 2) (zv 3)) (ze_op op_mulB (zv 1) (zv 4)))) (za_b (ze_op op_sub (ze_op op_add (ze_op op_sub (ze_op op_mulB (zv 1) (zv 1)) (ze_op op_mulB (zv 2) (zv 2))) (ze_op op_mulB (zv 3) (zv 3))) (ze_op op_mulB (zv 4) (zv 4))) (za_b (ze_op op_mulB ze_int (ze_op op_sub (ze_op op_mulB (zv 3) (zv 4)) (ze_op op_mulB (zv 1) (zv 2)))) za_nil)))))
    (zss_one (zs_ret (ze_lst (za_n (zv 5) (za_n (zv 6) (za_t (ze_tup (za_b (ze_op op_mulB ze_int (ze_op op_sub (ze_op op_mulB (zv 2) (zv 4)) (ze_op op_mulB (zv 1) (zv 3)))) (za_b (ze_op op_mulB ze_int (ze_op op_add (ze_op op_mulB (zv 3) (zv 4)) (ze_op op_mulB (zv 1) (zv 2)))) (za_b (ze_op op_add (ze_op op_sub (ze_op op_sub (ze_op op_mulB (zv 1) (zv 1)) (ze_op op_mulB (zv 2) (zv 2))) (ze_op op_mulB (zv 3) (zv 3))) (ze_op op_mulB (zv 4) (zv 4))) za_nil)))) za_nil))))))))), ?_⟩
  have ha : Bt a 1000 := hB a (by simp)
  have hb : Bt b 1000 := hB b (by simp)
  have hc : Bt c 1000 := hB c (by simp)
  have hd : Bt d 1000 := hB d (by simp)
  refine ⟨_, rfl, x, _, rfl, hS, rfl, _, _, rfl, _, _, rfl, _, _, rfl, _, _, rfl, rfl, ?_⟩
  show tSeq _ _ _ [some (.ref x), some (.int a), some (.int b), some (.int c), some (.int d), none, none] _
  refine ⟨_, rfl, _, rfl, _, _, rfl, rfl, ha.mulOk ha, _, rfl, _, rfl, _, _, rfl, rfl, hb.mulOk hb, _, _, rfl, rfl, _, rfl, _, rfl, _, _, rfl, rfl, hc.mulOk hc, _, _, rfl, rfl, _, rfl, _, rfl, _, _, rfl, rfl, hd.mulOk hd, _, _, rfl, rfl, _, rfl, _, rfl, _, _, rfl, rfl, hb.mulOk hc, _, rfl, _, rfl, _, _, rfl, rfl, ha.mulOk hd, _, _, rfl, rfl, _, _, rfl, rfl, two1.mulOk ((hb.mul hc).sub (ha.mul hd)), _, rfl, _, rfl, _, _, rfl, rfl, hb.mulOk hd, _, rfl, _, rfl, _, _, rfl, rfl, ha.mulOk hc, _, _, rfl, rfl, _, _, rfl, rfl, two1.mulOk ((hb.mul hd).add (ha.mul hc)), (by show 3 <= sizeLine; decide), fun p1 e1 => ?_⟩
  show tSeq _ _ _ [some (.ref x), some (.int a), some (.int b), some (.int c), some (.int d), some (.ref p1), none] _
  refine ⟨_, rfl, _, rfl, _, _, rfl, rfl, hb.mulOk hc, _, rfl, _, rfl, _, _, rfl, rfl, ha.mulOk hd, _, _, rfl, rfl, _, _, rfl, rfl, two1.mulOk ((hb.mul hc).add (ha.mul hd)), _, rfl, _, rfl, _, _, rfl, rfl, ha.mulOk ha, _, rfl, _, rfl, _, _, rfl, rfl, hb.mulOk hb, _, _, rfl, rfl, _, rfl, _, rfl, _, _, rfl, rfl, hc.mulOk hc, _, _, rfl, rfl, _, rfl, _, rfl, _, _, rfl, rfl, hd.mulOk hd, _, _, rfl, rfl, _, rfl, _, rfl, _, _, rfl, rfl, hc.mulOk hd, _, rfl, _, rfl, _, _, rfl, rfl, ha.mulOk hb, _, _, rfl, rfl, _, _, rfl, rfl, two1.mulOk ((hc.mul hd).sub (ha.mul hb)), (by show 3 <= sizeLine; decide), fun p2 e2 => ?_⟩
  dsimp only [gName]
  show tRet _ _ [some (.ref x), some (.int a), some (.int b), some (.int c), some (.int d), some (.ref p1), some (.ref p2)] _
  refine ⟨_, rfl, _, rfl, _, rfl, _, rfl, _, _, rfl, rfl, hb.mulOk hd, _, rfl, _, rfl, _, _, rfl, rfl, ha.mulOk hc, _, _, rfl, rfl, _, _, rfl, rfl, two1.mulOk ((hb.mul hd).sub (ha.mul hc)), _, rfl, _, rfl, _, _, rfl, rfl, hc.mulOk hd, _, rfl, _, rfl, _, _, rfl, rfl, ha.mulOk hb, _, _, rfl, rfl, _, _, rfl, rfl, two1.mulOk ((hc.mul hd).add (ha.mul hb)), _, rfl, _, rfl, _, _, rfl, rfl, ha.mulOk ha, _, rfl, _, rfl, _, _, rfl, rfl, hb.mulOk hb, _, _, rfl, rfl, _, rfl, _, rfl, _, _, rfl, rfl, hc.mulOk hc, _, _, rfl, rfl, _, rfl, _, rfl, _, _, rfl, rfl, hd.mulOk hd, _, _, rfl, rfl, (by show 3 <= sizeLine; decide), fun p3 e3 => ?_⟩
  refine ⟨(by show 3 <= sizeLine; decide), fun r e4 => ?_⟩
  have s1 := Same.new e1 (.tup ((rw1 a b c d).map V.int))
  have s2 := Same.new e2 (.tup ((rw2 a b c d).map V.int))
  have s3 := Same.new e3 (.tup ((rw3 a b c d).map V.int))
  have s4 := Same.new e4 (.lst [.ref p1, .ref p2, .ref p3])
  exact q r p1 p2 p3 _ (s1.trans (s2.trans (s3.trans s4))) upd_same (s4 _ _ (s3 _ _ (s2 _ _ upd_same))) (s4 _ _ (s3 _ _ upd_same)) (s4 _ _ upd_same)
theorem scLTurnedp1 : FnScope ["_law_four", "_law_point", "_law_long", "_law_found", "_law_row", "_law_top", "_law_bottom", "_law_by", "_law_number_here"] ["_law_four", "_law_point"] (defScope sLTurnedp1) := ⟨rfl, rfl, rfl, by decide +kernel, rfl, by decide +kernel, by decide +kernel⟩
theorem ok_lturnedp1 (F : Fun K "_law_turned" "_law_turned" sLTurnedp1 f fd)
    (G : FnOk P w K mg base CX0 1 g gd ["_law_four"] (spRows K)) (bG : Binds K gd ["_law_four"] []) (kG : PySem.W.keepIn K (.ref g) = true) (mG : mg "_law_rows" = some (.ref g))
    (G2 : FnOk P w K mg base CX0 2 g2 gd2 ["_law_top", "_law_bottom"] (spMade K)) (bG2 : Binds K gd2 ["_law_top", "_law_bottom"] []) (kG2 : PySem.W.keepIn K (.ref g2) = true) (mG2 : mg "_law_made" = some (.ref g2)) (m_sum : mg "sum" = none) (m_zip : mg "zip" = none) (m_tuple : mg "tuple" = none) :
    FnOk P w K mg base CX0 3 f fd ["_law_four", "_law_point"] (spTurned K) := by
  refine F.okZ scLTurnedp1 (fun vs H Q E h => ?_) (fun cdv A outer s H vs Q E hr h => ?_)
  . obtain ⟨x, p, a, b, c, d, t1, b1, t2, b2, t3, b3, rfl, _⟩ := h; rfl
  obtain ⟨x, p, a, b, c, d, t1, b1, t2, b2, t3, b3, rfl, hS, hz, hB, hp, fs, q⟩ := h
  have r := hr.mono (show 1 <= 2 by decide)
  have r2 := hr.mono (show 2 <= 2 by decide)
  refine ⟨_, (zss_cons (zs_set (i := 2) scLTurnedp1.nd rfl (Or.inl rfl) (ze_callB (call_sumL rfl) rfl m_sum (by rfl) (za_cons (ze_comp (own := ["_law_number_here"]) scLTurnedp1 rfl ⟨by decide +kernel, rfl, by decide +kernel, by decide +kernel, by decide +kernel, by decide +kernel, by decide +kernel, by decide +kernel, by decide +kernel⟩ (zi_tup (zv 0)) (fun C fp s H nd => zg_name (i := 0) nd rfl (Or.inl rfl)) (fun C fp s H => zts_nil) (fun C fp s H => (ze_op op_mulB (zv 0) (zv 0)))) za_nil)))
    (zss_cons (zs_set (i := 3) scLTurnedp1.nd rfl (Or.inl rfl) (ze_lst za_nil))
    (zss_cons (zs_for PassesOwn.never rfl (zi_list (ze_call G r rfl mG kG bG .nil pass0 (za_n (zv 0) za_nil))) (zg_name (i := 4) scLTurnedp1.nd rfl (Or.inl rfl)) (zss_cons (zs_asg (ze_tup (za_i (za_i za_nil))) (zg_tup rfl (zgs_cons (zg_name (i := 5) scLTurnedp1.nd rfl (Or.inl rfl)) (zgs_cons (zg_name (i := 6) scLTurnedp1.nd rfl (Or.inl rfl)) zgs_nil))))
    (zss_cons (zs_for PassesOwn.never rfl (zi_zip rfl m_zip (za_n (zv 4) (za_n (zv 1) za_nil))) (zg_tup rfl (zgs_cons (zg_name (i := 7) scLTurnedp1.nd rfl (Or.inl rfl)) (zgs_cons (zg_name (i := 8) scLTurnedp1.nd rfl (Or.inl rfl)) zgs_nil))) (zss_cons (zs_set (i := 5) scLTurnedp1.nd rfl (Or.inl rfl) (ze_op op_add (ze_op op_mulB (zv 5) (ze_ix ix_tup (zv 8) ze_int (fun _ _ => rfl))) (ze_op op_mulB (ze_op op_mulB (zv 7) (ze_ix ix_tup (zv 8) ze_int (fun _ _ => rfl))) (zv 6))))
    (zss_one (zs_set (i := 6) scLTurnedp1.nd rfl (Or.inl rfl) (ze_op op_mulB (zv 6) (ze_ix ix_tup (zv 8) ze_int (fun _ _ => rfl)))))))
    (zss_one (zs_expr (ze_append (zv 3) (ze_call G2 r2 rfl mG2 kG2 bG2 .nil pass0 (za_n (zv 5) (za_b (ze_op op_mulB (zv 6) (zv 2)) za_nil)))))))))
    (zss_one (zs_ret (ze_callTy call_tuple_of rfl m_tuple (by rfl) (za_n (zv 3) za_nil))))))), ?_⟩
  obtain ⟨q1, q2, q3, g0, g1, g2, g3⟩ := hp.ex
  obtain ⟨W1, W2, W3⟩ := rows_bt hB
  have np := nrm_pos (ns := [a, b, c, d]) rfl hz
  have bN := nrm_bt hB
  refine ⟨_, rfl, x, rfl, ⟨_, hS⟩, ?_⟩
  refine comp_ints (src_tup hS) (fun n => n * n) (show 4 <= sizeLine by decide) (fun n hn H' s R k => ?_) fun D1 H1 s1 h1 _ => ?_
  . exact ⟨_, rfl, _, rfl, _, _, rfl, rfl, (bt_bd hB hn).mulOk (bt_bd hB hn), k _ (Same.refl _)⟩
  refine ⟨D1, _, rfl, SqL.of h1, ?_⟩
  rw [sum_sq]
  refine ⟨(by show 0 <= sizeLine; decide), fun D hD => ?_⟩
  have sD := Same.new hD (.lst [])
  refine ⟨_, rfl, x, a, b, c, d, rfl, (s1.trans sD).tup hS, hB, fun r p1 p2 p3 H2 s2 hr0 hp1 hp2 hp3 => ?_⟩
  have hD2 : H2 D = some (.lst []) := s2 _ _ upd_same
  have HDn : H D = none := s1.free hD
  have S2 : Same H H2 := s1.trans (sD.trans s2)
  have rD : r ≠ D := ne_of hr0 hD2 (fun z => by cases z)
  refine ⟨r, rfl, ⟨_, SqL.of hr0⟩, for_list (xs := [.ref p1, .ref p2, .ref p3]) (fun i σ H' => ∃ (qs : List Addr) (o4 o5 o6 o7 o8 : Option V), σ = [some (.ref x), some (.ref p), some (.int (nrm [a, b, c, d])), some (.ref D), o4, o5, o6, o7, o8] /\ SB D H2 H' /\ H' D = some (.lst (qs.map V.ref)) /\ qs.length = i /\
      ∀ (j : Nat) (u : Addr), qs[j]? = some u -> ∃ f, [fr (tp (rw1 a b c d) t1 b1 t2 b2 t3 b3) (b1 * b2 * b3 * nrm [a, b, c, d]), fr (tp (rw2 a b c d) t1 b1 t2 b2 t3 b3) (b1 * b2 * b3 * nrm [a, b, c, d]), fr (tp (rw3 a b c d) t1 b1 t2 b2 t3 b3) (b1 * b2 * b3 * nrm [a, b, c, d])][j]? = some f /\ H' u = some (.tup (f.map V.int)))
    ⟨[], _, _, _, _, _, rfl, SB.refl _ _, hD2, rfl, fun j u e => by simp at e⟩ (fun i σ H' _ h => ?_) (fun i rx σ H' hx h => ?_) (fun σ H' h => ?_)⟩
  . obtain ⟨qs, o4, o5, o6, o7, o8, rfl, sb, hy, hl, hf⟩ := h
    exact SqL.of (sb _ _ rD hr0)
  . obtain ⟨qs, o4, o5, o6, o7, o8, rfl, sb, hy, hl, hf⟩ := h
    obtain ⟨pk, r1, r2, r3, rfl, hpk, fk, R⟩ : ∃ pk r1 r2 r3, V.ref pk = rx /\ H2 pk = some (.tup ([r1, r2, r3].map V.int)) /\ [fr (tp (rw1 a b c d) t1 b1 t2 b2 t3 b3) (b1 * b2 * b3 * nrm [a, b, c, d]), fr (tp (rw2 a b c d) t1 b1 t2 b2 t3 b3) (b1 * b2 * b3 * nrm [a, b, c, d]), fr (tp (rw3 a b c d) t1 b1 t2 b2 t3 b3) (b1 * b2 * b3 * nrm [a, b, c, d])][i]? = some (fr (tp [r1, r2, r3] t1 b1 t2 b2 t3 b3) (b1 * b2 * b3 * nrm [a, b, c, d])) /\ ∀ n ∈ [r1, r2, r3], Bt n 2003 := by
      rcases get3 hx with ⟨rfl, rfl⟩ | ⟨rfl, rfl⟩ | ⟨rfl, rfl⟩
      . exact ⟨p1, _, _, _, rfl, hp1, rfl, W1⟩
      . exact ⟨p2, _, _, _, rfl, hp2, rfl, W2⟩
      . exact ⟨p3, _, _, _, rfl, hp3, rfl, W3⟩
    have R1 := R r1 (by simp)
    have R2 := R r2 (by simp)
    have R3 := R r3 (by simp)
    have hT0 : Bt 0 1 := by unfold Bt; decide
    have hB0 : Bt 1 1 := by unfold Bt; decide
    have hB1 : Bt (1 * b1) 1001 := (hB0.mul fs.v1).up (by decide)
    have hB2 : Bt (1 * b1 * b2) 2001 := (hB1.mul fs.v2).up (by decide)
    have hB3 : Bt (1 * b1 * b2 * b3) 3001 := (hB2.mul fs.v3).up (by decide)
    have hT1 : Bt (0 * b1 + r1 * t1 * 1) 3005 := ((((hT0.mul fs.v1).up (by decide)).add ((R1.mul fs.u1).mul hB0)).up (by decide))
    have hT2 : Bt ((0 * b1 + r1 * t1 * 1) * b2 + r2 * t2 * (1 * b1)) 4010 := ((((hT1.mul fs.v2).up (show _ <= 4006 by decide)).add (((R2.mul fs.u2).mul hB1).up (by decide))).up (by decide))
    dsimp only [gName]
    show tSeq _ _ _ [some (.ref x), some (.ref p), some (.int (nrm [a, b, c, d])), some (.ref D), some (.ref pk), o5, o6, o7, o8] _
    have pkD : pk ≠ D := ne_of hpk hD2 (fun z => by cases z)
    refine ⟨(by show 2 <= sizeLine; decide), fun t0 ht0 => ?_⟩
    have s3 := Same.new ht0 (.tup ([0, 1].map V.int))
    refine ⟨t0, _, rfl, SqT.of upd_same, rfl, _, _, rfl, _, _, rfl, rfl, ?_⟩
    replace s3 : Same H' (upd H' t0 (.tup [.int 0, .int 1])) := s3
    generalize upd H' t0 (.tup [.int 0, .int 1]) = H3 at s3 ⊢
    have hpk' := s3 _ _ (sb _ _ pkD hpk)
    have pt' : ∀ {u : Addr} {ys : List V}, SqT K H2 u ys -> SqT K H3 u ys := fun h => s3.tup (sb.tm hD2 _ _ _ h)
    have hy3 := s3 _ _ hy
    show tSeq _ _ _ [some (.ref x), some (.ref p), some (.int (nrm [a, b, c, d])), some (.ref D), some (.ref pk), some (.int 0), some (.int 1), o7, o8] _
    refine ⟨_, rfl, _, rfl, pk, p, rfl, ⟨_, SqT.of hpk'⟩, ⟨_, pt' (S2.tup g0)⟩, for_zip (xs := [r1, r2, r3].map V.int) (ys := [.ref q1, .ref q2, .ref q3]) (fun j σ H'' => ∃ (o7 o8 : Option V), σ = [some (.ref x), some (.ref p), some (.int (nrm [a, b, c, d])), some (.ref D), some (.ref pk), some (.int ([0, 0 * b1 + r1 * t1 * 1, (0 * b1 + r1 * t1 * 1) * b2 + r2 * t2 * (1 * b1), ((0 * b1 + r1 * t1 * 1) * b2 + r2 * t2 * (1 * b1)) * b3 + r3 * t3 * (1 * b1 * b2)].getD j 0)), some (.int ([1, 1 * b1, 1 * b1 * b2, 1 * b1 * b2 * b3].getD j 0)), o7, o8] /\ Same H3 H'')
      ⟨_, _, rfl, Same.refl _⟩ rfl (fun j σ H'' _ h => ?_) (fun j xx yy σ H'' pp hxx hyy h hpp => ?_) (fun σ H'' h => ?_)⟩
    . obtain ⟨o7, o8, rfl, s4⟩ := h
      exact ⟨SqT.of (s4 _ _ hpk'), s4.tup (pt' (S2.tup g0))⟩
    . rcases get3 hyy with ⟨rfl, rfl⟩ | ⟨rfl, rfl⟩ | ⟨rfl, rfl⟩ <;> cases hxx
      . obtain ⟨o7, o8, rfl, s4⟩ := h
        have hq := (s4.trans (Same.new hpp (.tup [.int r1, .ref q1]))).tup (pt' (S2.tup g1))
        refine ⟨pp, _, rfl, SqT.of upd_same, rfl, _, _, rfl, _, _, rfl, rfl, ?_⟩
        refine ⟨_, rfl, _, rfl, q1, _, _, _, rfl, rfl, hq, at21, _, _, rfl, rfl, hT0.mulOk fs.v1, _, rfl, _, rfl, q1, _, _, _, rfl, rfl, hq, at20, _, _, rfl, rfl, R1.mulOk fs.u1, _, rfl, _, _, rfl, rfl, (R1.mul fs.u1).mulOk hB0, _, _, rfl, rfl, ?_⟩
        refine ⟨_, rfl, _, rfl, q1, _, _, _, rfl, rfl, hq, at21, _, _, rfl, rfl, hB0.mulOk fs.v1, ?_⟩
        exact ⟨_, _, rfl, s4.trans (Same.new hpp _)⟩
      . obtain ⟨o7, o8, rfl, s4⟩ := h
        have hq := (s4.trans (Same.new hpp (.tup [.int r2, .ref q2]))).tup (pt' (S2.tup g2))
        refine ⟨pp, _, rfl, SqT.of upd_same, rfl, _, _, rfl, _, _, rfl, rfl, ?_⟩
        refine ⟨_, rfl, _, rfl, q2, _, _, _, rfl, rfl, hq, at21, _, _, rfl, rfl, hT1.mulOk fs.v2, _, rfl, _, rfl, q2, _, _, _, rfl, rfl, hq, at20, _, _, rfl, rfl, R2.mulOk fs.u2, _, rfl, _, _, rfl, rfl, (R2.mul fs.u2).mulOk hB1, _, _, rfl, rfl, ?_⟩
        refine ⟨_, rfl, _, rfl, q2, _, _, _, rfl, rfl, hq, at21, _, _, rfl, rfl, hB1.mulOk fs.v2, ?_⟩
        exact ⟨_, _, rfl, s4.trans (Same.new hpp _)⟩
      . obtain ⟨o7, o8, rfl, s4⟩ := h
        have hq := (s4.trans (Same.new hpp (.tup [.int r3, .ref q3]))).tup (pt' (S2.tup g3))
        refine ⟨pp, _, rfl, SqT.of upd_same, rfl, _, _, rfl, _, _, rfl, rfl, ?_⟩
        refine ⟨_, rfl, _, rfl, q3, _, _, _, rfl, rfl, hq, at21, _, _, rfl, rfl, hT2.mulOk fs.v3, _, rfl, _, rfl, q3, _, _, _, rfl, rfl, hq, at20, _, _, rfl, rfl, R3.mulOk fs.u3, _, rfl, _, _, rfl, rfl, (R3.mul fs.u3).mulOk hB2, _, _, rfl, rfl, ?_⟩
        refine ⟨_, rfl, _, rfl, q3, _, _, _, rfl, rfl, hq, at21, _, _, rfl, rfl, hB2.mulOk fs.v3, ?_⟩
        exact ⟨_, _, rfl, s4.trans (Same.new hpp _)⟩
    . obtain ⟨o7, o8, rfl, s4⟩ := h
      dsimp only
      show tDrop _ _ [some (.ref x), some (.ref p), some (.int (nrm [a, b, c, d])), some (.ref D), some (.ref pk), some (.int (((0 * b1 + r1 * t1 * 1) * b2 + r2 * t2 * (1 * b1)) * b3 + r3 * t3 * (1 * b1 * b2))), some (.int (1 * b1 * b2 * b3)), o7, o8] _
      have hy4 := s4 _ _ hy3
      have eB : 1 * b1 * b2 * b3 = b1 * b2 * b3 := by rw [Int.one_mul]
      refine ⟨_, rfl, .inl ⟨rfl, _, SqL.of hy4⟩, _, rfl, _, rfl, _, rfl, _, _, rfl, rfl, hB3.mulOk bN, ?_⟩
      rw [tp_law, eB]
      rw [eB] at hB3
      refine ⟨_, _, rfl, Int.mul_pos (Int.mul_pos (Int.mul_pos fs.p1 fs.p2) fs.p3) np, (hB3.mul bN).up (by decide), fun rr H5 s5 h5 => ?_⟩
      have hy5 := s5 _ _ hy4
      have hi : qs.length < 3 := by rw [hl]; exact (List.getElem?_eq_some_iff.mp fk).1
      refine ⟨D, _, _, rfl, rfl, hy5, by rw [List.length_map]; exact Nat.lt_of_lt_of_le hi (show 3 <= sizeLine by decide), ?_⟩
      refine ⟨qs ++ [rr], _, _, _, _, _, rfl, (sb.trans ((s3.trans (s4.trans s5)).sb)).trans SB.upd, by rw [upd_same, List.map_append]; rfl, by rw [List.length_append, hl]; rfl, fun j u e => ?_⟩
      have nD : ∀ {u : Addr} {ys : List V}, H5 u = some (.tup ys) -> u ≠ D := fun h z => by subst z; rw [hy5] at h; cases h
      by_cases hj : j < qs.length
      . rw [List.getElem?_append_left hj] at e
        obtain ⟨f, e1, e2⟩ := hf j u e
        have e3 := s5 _ _ (s4 _ _ (s3 _ _ e2))
        exact ⟨f, e1, by rw [upd_ne (nD e3)]; exact e3⟩
      . rw [List.getElem?_append_right (by omega)] at e
        have ej : j - qs.length = 0 := by
          have := (List.getElem?_eq_some_iff.mp e).1
          simp at this; omega
        rw [ej] at e
        cases e
        have : j = i := by omega
        subst this
        exact ⟨_, fk, by rw [upd_ne (nD h5)]; exact h5⟩
  . obtain ⟨qs, o4, o5, o6, o7, o8, rfl, sb, hy, hl, hf⟩ := h
    obtain ⟨u1, u2, u3, rfl⟩ := three_of hl
    obtain ⟨f1, e1, k1⟩ := hf 0 u1 rfl
    obtain ⟨f2, e2, k2⟩ := hf 1 u2 rfl
    obtain ⟨f3, e3, k3⟩ := hf 2 u3 rfl
    cases e1; cases e2; cases e3
    refine ⟨_, rfl, D, _, rfl, .inl ⟨SqL.of hy, fun u hu => ?_⟩⟩
    have s7 := Same.new hu (.tup ([u1, u2, u3].map V.ref))
    exact q u _ ((same_sb S2 sb HDn).trans s7) ⟨u1, u2, u3, upd_same, s7 _ _ k1, s7 _ _ k2, s7 _ _ k3⟩
theorem scDIsPoint : FnScope ["_law_found", "_law_due", "_law_number_here"] ["_law_found", "_law_due"] (defScope sDIsPoint) := ⟨rfl, rfl, rfl, by decide +kernel, rfl, by decide +kernel, by decide +kernel⟩
theorem ok_dispoint (F : Fun K "_law_is_point" "_law_is_point" sDIsPoint f fd)
    (G : FnOk P w K mg base CX0 1 g gd ["_law_found"] spWhole) (bG : Binds K gd ["_law_found"] []) (kG : PySem.W.keepIn K (.ref g) = true) (mG : mg "_law_whole" = some (.ref g)) (m_len : mg "len" = none) (m_isinstance : mg "isinstance" = none) (m_tuple : mg "tuple" = none) :
    FnOk P w K mg base CX0 2 f fd ["_law_found", "_law_due"] (spP K RIsPoint) := by
  refine okP F scDIsPoint (fun ds d h => ?_) (fun cdv A0 outer s0 H0 E0 hr => ?_)
  . obtain ⟨x, y, z, rfl, _⟩ := h; rfl
  have r := hr.mono (show 1 <= 1 by decide)
  refine ⟨_, (zss_cons (zs_if (ZW.pt (zw_or (zt_not (zt_val (ze_callB (call_isiD (T := "tuple")) rfl m_isinstance (by rfl) (za_n (zv 0) (za_n (ze_tyn rfl m_tuple (by rfl)) za_nil))))) (zw_or (zt_cmpR op_ne (ze_callB call_len_seq rfl m_len PySem.boot_len (za_n (zv 0) za_nil)) ze_int (nomark _)) (zw_or1 (zt_cmpR (op_neD hr.units) (zv 0) (zv 1) (nomark _)))))) (zss_one (zs_ret ze_bl)) zss_nil)
    (zss_cons (zs_for PassesOwn.never rfl (zi_tup (zv 0)) (zg_name (i := 2) scDIsPoint.nd rfl (Or.inl rfl)) (zss_one (zs_if (ZW.pt (zw_or (zt_not (zt_val (ze_callB (call_isiD (T := "tuple")) rfl m_isinstance (by rfl) (za_n (zv 2) (za_n (ze_tyn rfl m_tuple (by rfl)) za_nil))))) (zw_or1 (zt_cmpR op_gt (ze_callB call_len_seq rfl m_len PySem.boot_len (za_cons (ze_comp (own := ["_law_one"]) scDIsPoint rfl ⟨by decide +kernel, rfl, by decide +kernel, by decide +kernel, by decide +kernel, by decide +kernel, by decide +kernel, by decide +kernel, by decide +kernel⟩ (zi_tup (zv 2)) (fun C fp s H nd => zg_name (i := 0) nd rfl (Or.inl rfl)) (fun C fp s H => zts_one (zt_not (zt_val (ze_call G r rfl mG kG bG .nil pass0 (za_n (zv 0) za_nil))))) (fun C fp s H => (zv 0))) za_nil)) ze_int (nomark _))))) (zss_one (zs_ret ze_bl)) zss_nil)))
    (zss_one (zs_ret ze_bl)))), fun ds d h => ?_⟩
  obtain ⟨x, y, z, rfl, rfl⟩ := h
  refine S.ifsF (T1.orF (T1.notT (T1.val (E1.isiT (E1.var rfl)))) (T1.orF (T1.neT (E1.lenT (A1.cons (E1.var rfl) A1.nil)) E1.int rfl) (T1.neDT (E1.var rfl) (E1.var rfl) rfl rfl kq_ptQ))) ?_
  refine S.seq (M := fun τ' => ∃ o : Sl, τ' = [.dat (ptQ x y z), .dat (ptQ x y z), o]) ?_ fun τ' ⟨o, eτ⟩ => ?_
  . refine S.for (ds := [tI (qf x), tI (qf y), tI (qf z)]) (Wk.tup (E1.var rfl)) (fun _ τ' => ∃ o : Sl, τ' = [.dat (ptQ x y z), .dat (ptQ x y z), o]) ⟨_, rfl⟩ (fun i d τ1 hd ⟨o, e1⟩ => ?_) (fun τ1 h => h)
    subst e1
    have hu : ∃ w : Rat, d = tI (qf w) := by
      rcases get3 hd with ⟨_, rfl⟩ | ⟨_, rfl⟩ | ⟨_, rfl⟩ <;> exact ⟨_, rfl⟩
    obtain ⟨w, rfl⟩ := hu
    refine ⟨_, Gd.name, ?_⟩
    refine S.ifF (T1.orF (T1.notT (T1.val (E1.isiT (E1.var rfl)))) ((T1.test (E1.gt (E1.lenL (A1.cons (E1.vwo (E1.compIF (ns := qf w) (kp := fun _ => false) (Wk.tup (E1.var rfl)) (fun n _ => T1.notT (T1.val (E1.cWhole (A1.cons (E1.var rfl) A1.nil)))) (fun n _ => E1.var rfl) (by show 2 <= sizeLine; decide))) A1.nil)) E1.int)).eqn ?_)) (S.next ⟨_, rfl⟩)
    rw [List.filter_eq_nil_iff.mpr fun _ _ => by simp]; rfl
  subst eτ
  exact S.ret1 E1.bl ⟨rfl, rfl⟩
theorem scLAdded : FnScope ["_law_one", "_law_other", "_law_found", "_law_number_here", "_law_far"] ["_law_one", "_law_other"] (defScope sLAdded) := ⟨rfl, rfl, rfl, by decide +kernel, rfl, by decide +kernel, by decide +kernel⟩
theorem ok_ladded (F : Fun K "_law_added" "_law_added" sLAdded f fd)
    (G : FnOk P w K mg base CX0 2 g gd ["_law_top", "_law_bottom"] (spMade K)) (bG : Binds K gd ["_law_top", "_law_bottom"] []) (kG : PySem.W.keepIn K (.ref g) = true) (mG : mg "_law_made" = some (.ref g)) (m_zip : mg "zip" = none) (m_tuple : mg "tuple" = none) :
    FnOk P w K mg base CX0 3 f fd ["_law_one", "_law_other"] (spP K RAdded) := by
  refine okP F scLAdded (fun ds d h => ?_) (fun cdv A0 outer s0 H0 E0 hr => ?_)
  . obtain ⟨c, x, y, z, u, v, w, rfl, _⟩ := h; rfl
  have r := hr.mono (show 2 <= 2 by decide)
  refine ⟨_, (zss_cons (zs_set (i := 2) scLAdded.nd rfl (Or.inl rfl) (ze_lst za_nil))
    (zss_cons (zs_for PassesOwn.never rfl (zi_zip rfl m_zip (za_n (zv 0) (za_n (zv 1) za_nil))) (zg_tup rfl (zgs_cons (zg_name (i := 3) scLAdded.nd rfl (Or.inl rfl)) (zgs_cons (zg_name (i := 4) scLAdded.nd rfl (Or.inl rfl)) zgs_nil))) (zss_one (zs_expr (ze_append (zv 2) (ze_call G r rfl mG kG bG .nil pass0 (za_b (ze_op op_add (ze_op op_mulB (ze_ix ix_tup (zv 3) ze_int (fun _ _ => rfl)) (ze_ix ix_tup (zv 4) ze_int (fun _ _ => rfl))) (ze_op op_mulB (ze_ix ix_tup (zv 4) ze_int (fun _ _ => rfl)) (ze_ix ix_tup (zv 3) ze_int (fun _ _ => rfl)))) (za_b (ze_op op_mulB (ze_ix ix_tup (zv 3) ze_int (fun _ _ => rfl)) (ze_ix ix_tup (zv 4) ze_int (fun _ _ => rfl))) za_nil)))))))
    (zss_one (zs_ret (ze_callTy call_tuple_of rfl m_tuple (by rfl) (za_n (zv 2) za_nil)))))), fun ds d h => ?_⟩
  obtain ⟨c, x, y, z, u, v, w, rfl, px, pu, hc, rfl⟩ := h
  obtain ⟨l1, l2, l3⟩ := px.lo
  obtain ⟨g1, g2, g3⟩ := pu.lo
  refine S.letO (ds := []) (E1.li A1.nil rfl (lsz (n := 0) rfl z0)) rfl ?_
  refine S.seq (M := fun τ' => ∃ o o' : Sl, τ' = [.dat (ptQ x y z), .dat (ptQ u v w), .own [tI (qf (x + u)), tI (qf (y + v)), tI (qf (z + w))], o, o']) ?_ fun τ' ⟨o, o', eτ⟩ => ?_
  . refine S.for (ds := zipD [tI (qf x), tI (qf y), tI (qf z)] [tI (qf u), tI (qf v), tI (qf w)]) (Wk.zip (A1.cons (E1.var rfl) (A1.cons (E1.var rfl) A1.nil)) rfl) (fun i τ' => ∃ o o' : Sl, τ' = [.dat (ptQ x y z), .dat (ptQ u v w), .own ([tI (qf (x + u)), tI (qf (y + v)), tI (qf (z + w))].take i), o, o']) ⟨_, _, rfl⟩ (fun i d τ1 hd ⟨o, o', e1⟩ => ?_) (fun τ1 h => h)
    subst e1
    rcases get3 hd with ⟨rfl, rfl⟩ | ⟨rfl, rfl⟩ | ⟨rfl, rfl⟩
    . exact ⟨_, Gd.pair, S.append1 (i := 2) (ds := []) (d := tI (qf (x + u))) rfl (E1.to (E1.cMade (t := x.num * (u.den : Int) + u.num * (x.den : Int)) (b := (x.den : Int) * u.den) (A1.cons (E1.add (E1.mul (E1.ixT (E1.var rfl) E1.int rfl) (E1.ixT (E1.var rfl) E1.int rfl) ((l1.bt.up hc).mulOk (g1.bb.up hc))) (E1.mul (E1.ixT (E1.var rfl) E1.int rfl) (E1.ixT (E1.var rfl) E1.int rfl) ((g1.bt.up hc).mulOk (l1.bb.up hc)))) (A1.cons (E1.mul (E1.ixT (E1.var rfl) E1.int rfl) (E1.ixT (E1.var rfl) E1.int rfl) ((l1.bb.up hc).mulOk (g1.bb.up hc))) A1.nil)) (Int.mul_pos l1.pos g1.pos) ((l1.bb.mul g1.bb).up (by omega))) (by rw [qf_add l1 g1])) rfl (by show 0 < sizeLine; decide) ⟨_, _, rfl⟩⟩
    . exact ⟨_, Gd.pair, S.append1 (i := 2) (ds := [tI (qf (x + u))]) (d := tI (qf (y + v))) rfl (E1.to (E1.cMade (t := y.num * (v.den : Int) + v.num * (y.den : Int)) (b := (y.den : Int) * v.den) (A1.cons (E1.add (E1.mul (E1.ixT (E1.var rfl) E1.int rfl) (E1.ixT (E1.var rfl) E1.int rfl) ((l2.bt.up hc).mulOk (g2.bb.up hc))) (E1.mul (E1.ixT (E1.var rfl) E1.int rfl) (E1.ixT (E1.var rfl) E1.int rfl) ((g2.bt.up hc).mulOk (l2.bb.up hc)))) (A1.cons (E1.mul (E1.ixT (E1.var rfl) E1.int rfl) (E1.ixT (E1.var rfl) E1.int rfl) ((l2.bb.up hc).mulOk (g2.bb.up hc))) A1.nil)) (Int.mul_pos l2.pos g2.pos) ((l2.bb.mul g2.bb).up (by omega))) (by rw [qf_add l2 g2])) rfl (by show 1 < sizeLine; decide) ⟨_, _, rfl⟩⟩
    . exact ⟨_, Gd.pair, S.append1 (i := 2) (ds := [tI (qf (x + u)), tI (qf (y + v))]) (d := tI (qf (z + w))) rfl (E1.to (E1.cMade (t := z.num * (w.den : Int) + w.num * (z.den : Int)) (b := (z.den : Int) * w.den) (A1.cons (E1.add (E1.mul (E1.ixT (E1.var rfl) E1.int rfl) (E1.ixT (E1.var rfl) E1.int rfl) ((l3.bt.up hc).mulOk (g3.bb.up hc))) (E1.mul (E1.ixT (E1.var rfl) E1.int rfl) (E1.ixT (E1.var rfl) E1.int rfl) ((g3.bt.up hc).mulOk (l3.bb.up hc)))) (A1.cons (E1.mul (E1.ixT (E1.var rfl) E1.int rfl) (E1.ixT (E1.var rfl) E1.int rfl) ((l3.bb.up hc).mulOk (g3.bb.up hc))) A1.nil)) (Int.mul_pos l3.pos g3.pos) ((l3.bb.mul g3.bb).up (by omega))) (by rw [qf_add l3 g3])) rfl (by show 2 < sizeLine; decide) ⟨_, _, rfl⟩⟩
  subst eτ
  exact S.ret1 (E1.tupleL (A1.cons (E1.varO rfl) A1.nil)) ⟨rfl, rfl⟩
theorem scPNear : FnScope ["_law_purse_here", "_law_found", "_law_k", "_law_top"] ["_law_purse_here"] (defScope sPNear) := ⟨rfl, rfl, rfl, by decide +kernel, rfl, by decide +kernel, by decide +kernel⟩
theorem scSq2 : FnScope ["_law_one", "_law_other", "_law_total", "_law_number_here", "_law_far", "_law_part", "_law_low"] ["_law_one", "_law_other"] (defScope sSq2) := ⟨rfl, rfl, rfl, by decide +kernel, rfl, by decide +kernel, by decide +kernel⟩
theorem ok_sq2 (F : Fun K "_law_square" "_law_square" sSq2 f fd)
    (G : FnOk P w K mg base CX0 2 g gd ["_law_top", "_law_bottom"] (spMade K)) (bG : Binds K gd ["_law_top", "_law_bottom"] []) (kG : PySem.W.keepIn K (.ref g) = true) (mG : mg "_law_made" = some (.ref g)) (m_zip : mg "zip" = none) :
    FnOk P w K mg base CX0 3 f fd ["_law_one", "_law_other"] (spP K RSq2) := by
  refine okP F scSq2 (fun ds d h => ?_) (fun cdv A0 outer s0 H0 E0 hr => ?_)
  . obtain ⟨a, b, rfl, _⟩ := h; rfl
  have r := hr.mono (show 2 <= 2 by decide)
  refine ⟨_, (zss_cons (zs_set (i := 2) scSq2.nd rfl (Or.inl rfl) (ze_tup (za_i (za_i za_nil))))
    (zss_cons (zs_for PassesOwn.never rfl (zi_zip rfl m_zip (za_n (zv 0) (za_n (zv 1) za_nil))) (zg_tup rfl (zgs_cons (zg_name (i := 3) scSq2.nd rfl (Or.inl rfl)) (zgs_cons (zg_name (i := 4) scSq2.nd rfl (Or.inl rfl)) zgs_nil))) (zss_cons (zs_set (i := 5) scSq2.nd rfl (Or.inl rfl) (ze_call G r rfl mG kG bG .nil pass0 (za_b (ze_op op_sub (ze_op op_mulB (ze_ix ix_tup (zv 3) ze_int (fun _ _ => rfl)) (ze_ix ix_tup (zv 4) ze_int (fun _ _ => rfl))) (ze_op op_mulB (ze_ix ix_tup (zv 4) ze_int (fun _ _ => rfl)) (ze_ix ix_tup (zv 3) ze_int (fun _ _ => rfl)))) (za_b (ze_op op_mulB (ze_ix ix_tup (zv 3) ze_int (fun _ _ => rfl)) (ze_ix ix_tup (zv 4) ze_int (fun _ _ => rfl))) za_nil))))
    (zss_cons (zs_set (i := 6) scSq2.nd rfl (Or.inl rfl) (ze_op op_mulB (ze_ix ix_tup (zv 5) ze_int (fun _ _ => rfl)) (ze_ix ix_tup (zv 5) ze_int (fun _ _ => rfl))))
    (zss_one (zs_set (i := 2) scSq2.nd rfl (Or.inl rfl) (ze_call G r rfl mG kG bG .nil pass0 (za_b (ze_op op_add (ze_op op_mulB (ze_ix ix_tup (zv 2) ze_int (fun _ _ => rfl)) (zv 6)) (ze_op op_mulB (ze_op op_mulB (ze_ix ix_tup (zv 5) ze_int (fun _ _ => rfl)) (ze_ix ix_tup (zv 5) ze_int (fun _ _ => rfl))) (ze_ix ix_tup (zv 2) ze_int (fun _ _ => rfl)))) (za_b (ze_op op_mulB (ze_ix ix_tup (zv 2) ze_int (fun _ _ => rfl)) (zv 6)) za_nil))))))))
    (zss_one (zs_ret (zv 2))))), fun ds d h => ?_⟩
  obtain ⟨a, b, rfl, la, lb, rfl⟩ := h
  have hs0 : Lo 1 (0 : Rat).num (0 : Rat).den 0 := lo_0
  have hsum := d2_sum (a := a) (b := b)
  have hd1 := dif_lo la.1 lb.1
  have md1 := dif_made la.1 lb.1
  obtain ⟨d1, ed1⟩ : ∃ d : Rat, d = a.x - b.x := ⟨_, rfl⟩
  rw [<- ed1] at hd1 md1
  have ms1 := sq_made hs0 hd1
  have hs1' := sq_lo hs0 hd1
  obtain ⟨s1, es1⟩ : ∃ s : Rat, s = 0 + d1 * d1 := ⟨_, rfl⟩
  rw [<- es1] at ms1 hs1'
  have hs1 : Lo 804 s1.num s1.den s1 := hs1'
  have hd2 := dif_lo la.2.1 lb.2.1
  have md2 := dif_made la.2.1 lb.2.1
  obtain ⟨d2, ed2⟩ : ∃ d : Rat, d = a.y - b.y := ⟨_, rfl⟩
  rw [<- ed2] at hd2 md2
  have ms2 := sq_made hs1 hd2
  have hs2' := sq_lo hs1 hd2
  obtain ⟨s2, es2⟩ : ∃ s : Rat, s = s1 + d2 * d2 := ⟨_, rfl⟩
  rw [<- es2] at ms2 hs2'
  have hs2 : Lo 1607 s2.num s2.den s2 := hs2'
  have hd3 := dif_lo la.2.2 lb.2.2
  have md3 := dif_made la.2.2 lb.2.2
  obtain ⟨d3, ed3⟩ : ∃ d : Rat, d = a.z - b.z := ⟨_, rfl⟩
  rw [<- ed3] at hd3 md3
  have ms3 := sq_made hs2 hd3
  have hs3' := sq_lo hs2 hd3
  obtain ⟨s3, es3⟩ : ∃ s : Rat, s = s2 + d3 * d3 := ⟨_, rfl⟩
  rw [<- es3] at ms3 hs3'
  have hs3 : Lo 2410 s3.num s3.den s3 := hs3'
  rw [<- ed1, <- ed2, <- ed3, <- es1, <- es2, <- es3] at hsum
  refine S.let1 (s := .dat (tI (qf 0))) (E1.to (s := .dat (tI [0, 1])) (E1.tu (A1.cons E1.int (A1.cons E1.int A1.nil)) rfl (lsz (n := 2) rfl z2)) rfl) ?_
  refine S.seq (M := fun τ' => ∃ o1 o2 o3 o4 : Sl, τ' = [.dat a.d, .dat b.d, .dat (tI (qf s3)), o1, o2, o3, o4]) ?_ fun τ' ⟨o1, o2, o3, o4, eτ⟩ => ?_
  . refine S.for (ds := zipD [tI (qf a.x), tI (qf a.y), tI (qf a.z)] [tI (qf b.x), tI (qf b.y), tI (qf b.z)]) (Wk.zip (A1.cons (E1.var rfl) (A1.cons (E1.var rfl) A1.nil)) rfl) (fun i τ' => ∃ o1 o2 o3 o4 : Sl, τ' = [.dat a.d, .dat b.d, .dat (tI (qf ([0, s1, s2, s3].getD i 0))), o1, o2, o3, o4]) ⟨_, _, _, _, rfl⟩ (fun i dd τ1 hd ⟨o1, o2, o3, o4, e1⟩ => ?_) (fun τ1 h => h)
    subst e1
    rcases get3 hd with ⟨rfl, rfl⟩ | ⟨rfl, rfl⟩ | ⟨rfl, rfl⟩
    . refine ⟨_, Gd.pair (x := tI (qf a.x)) (y := tI (qf b.x)), ?_⟩
      refine S.let1 (s := .dat (tI (qf d1))) (E1.to (E1.cMade (t := a.x.num * b.x.den - b.x.num * a.x.den) (b := (a.x.den : Int) * b.x.den) (A1.cons (E1.sub (E1.mul (E1.ixT (E1.var rfl) E1.int rfl) (E1.ixT (E1.var rfl) E1.int rfl) (la.1.bt.mulOk lb.1.bb)) (E1.mul (E1.ixT (E1.var rfl) E1.int rfl) (E1.ixT (E1.var rfl) E1.int rfl) (lb.1.bt.mulOk la.1.bb))) (A1.cons (E1.mul (E1.ixT (E1.var rfl) E1.int rfl) (E1.ixT (E1.var rfl) E1.int rfl) (la.1.bb.mulOk lb.1.bb)) A1.nil)) md1.1 (md1.2.1.up (by decide))) (by rw [fr_qf md1.1, md1.2.2.2])) ?_
      refine S.let1 (s := .dat (.int ((d1.den : Int) * d1.den))) (E1.mul (E1.ixT (E1.var rfl) E1.int rfl) (E1.ixT (E1.var rfl) E1.int rfl) (hd1.bb.mulOk hd1.bb)) ?_
      exact S.asg1 (s := .dat (tI (qf s1))) (E1.to (E1.cMade (t := (0 : Rat).num * ((d1.den : Int) * d1.den) + d1.num * d1.num * (0 : Rat).den) (b := ((0 : Rat).den : Int) * (d1.den * d1.den)) (A1.cons (E1.add (E1.mul (E1.ixT (E1.var rfl) E1.int rfl) (E1.var rfl) (hs0.bt.mulOk (hd1.bb.mul hd1.bb))) (E1.mul (E1.mul (E1.ixT (E1.var rfl) E1.int rfl) (E1.ixT (E1.var rfl) E1.int rfl) (hd1.bt.mulOk hd1.bt)) (E1.ixT (E1.var rfl) E1.int rfl) ((hd1.bt.mul hd1.bt).mulOk hs0.bb))) (A1.cons (E1.mul (E1.ixT (E1.var rfl) E1.int rfl) (E1.var rfl) (hs0.bb.mulOk (hd1.bb.mul hd1.bb))) A1.nil)) ms1.1 (ms1.2.1.up (by decide))) (by rw [fr_qf ms1.1, ms1.2.2.2])) ⟨_, _, _, _, rfl⟩
    . refine ⟨_, Gd.pair (x := tI (qf a.y)) (y := tI (qf b.y)), ?_⟩
      refine S.let1 (s := .dat (tI (qf d2))) (E1.to (E1.cMade (t := a.y.num * b.y.den - b.y.num * a.y.den) (b := (a.y.den : Int) * b.y.den) (A1.cons (E1.sub (E1.mul (E1.ixT (E1.var rfl) E1.int rfl) (E1.ixT (E1.var rfl) E1.int rfl) (la.2.1.bt.mulOk lb.2.1.bb)) (E1.mul (E1.ixT (E1.var rfl) E1.int rfl) (E1.ixT (E1.var rfl) E1.int rfl) (lb.2.1.bt.mulOk la.2.1.bb))) (A1.cons (E1.mul (E1.ixT (E1.var rfl) E1.int rfl) (E1.ixT (E1.var rfl) E1.int rfl) (la.2.1.bb.mulOk lb.2.1.bb)) A1.nil)) md2.1 (md2.2.1.up (by decide))) (by rw [fr_qf md2.1, md2.2.2.2])) ?_
      refine S.let1 (s := .dat (.int ((d2.den : Int) * d2.den))) (E1.mul (E1.ixT (E1.var rfl) E1.int rfl) (E1.ixT (E1.var rfl) E1.int rfl) (hd2.bb.mulOk hd2.bb)) ?_
      exact S.asg1 (s := .dat (tI (qf s2))) (E1.to (E1.cMade (t := s1.num * ((d2.den : Int) * d2.den) + d2.num * d2.num * s1.den) (b := (s1.den : Int) * (d2.den * d2.den)) (A1.cons (E1.add (E1.mul (E1.ixT (E1.var rfl) E1.int rfl) (E1.var rfl) (hs1.bt.mulOk (hd2.bb.mul hd2.bb))) (E1.mul (E1.mul (E1.ixT (E1.var rfl) E1.int rfl) (E1.ixT (E1.var rfl) E1.int rfl) (hd2.bt.mulOk hd2.bt)) (E1.ixT (E1.var rfl) E1.int rfl) ((hd2.bt.mul hd2.bt).mulOk hs1.bb))) (A1.cons (E1.mul (E1.ixT (E1.var rfl) E1.int rfl) (E1.var rfl) (hs1.bb.mulOk (hd2.bb.mul hd2.bb))) A1.nil)) ms2.1 (ms2.2.1.up (by decide))) (by rw [fr_qf ms2.1, ms2.2.2.2])) ⟨_, _, _, _, rfl⟩
    . refine ⟨_, Gd.pair (x := tI (qf a.z)) (y := tI (qf b.z)), ?_⟩
      refine S.let1 (s := .dat (tI (qf d3))) (E1.to (E1.cMade (t := a.z.num * b.z.den - b.z.num * a.z.den) (b := (a.z.den : Int) * b.z.den) (A1.cons (E1.sub (E1.mul (E1.ixT (E1.var rfl) E1.int rfl) (E1.ixT (E1.var rfl) E1.int rfl) (la.2.2.bt.mulOk lb.2.2.bb)) (E1.mul (E1.ixT (E1.var rfl) E1.int rfl) (E1.ixT (E1.var rfl) E1.int rfl) (lb.2.2.bt.mulOk la.2.2.bb))) (A1.cons (E1.mul (E1.ixT (E1.var rfl) E1.int rfl) (E1.ixT (E1.var rfl) E1.int rfl) (la.2.2.bb.mulOk lb.2.2.bb)) A1.nil)) md3.1 (md3.2.1.up (by decide))) (by rw [fr_qf md3.1, md3.2.2.2])) ?_
      refine S.let1 (s := .dat (.int ((d3.den : Int) * d3.den))) (E1.mul (E1.ixT (E1.var rfl) E1.int rfl) (E1.ixT (E1.var rfl) E1.int rfl) (hd3.bb.mulOk hd3.bb)) ?_
      exact S.asg1 (s := .dat (tI (qf s3))) (E1.to (E1.cMade (t := s2.num * ((d3.den : Int) * d3.den) + d3.num * d3.num * s2.den) (b := (s2.den : Int) * (d3.den * d3.den)) (A1.cons (E1.add (E1.mul (E1.ixT (E1.var rfl) E1.int rfl) (E1.var rfl) (hs2.bt.mulOk (hd3.bb.mul hd3.bb))) (E1.mul (E1.mul (E1.ixT (E1.var rfl) E1.int rfl) (E1.ixT (E1.var rfl) E1.int rfl) (hd3.bt.mulOk hd3.bt)) (E1.ixT (E1.var rfl) E1.int rfl) ((hd3.bt.mul hd3.bt).mulOk hs2.bb))) (A1.cons (E1.mul (E1.ixT (E1.var rfl) E1.int rfl) (E1.var rfl) (hs2.bb.mulOk (hd3.bb.mul hd3.bb))) A1.nil)) ms3.1 (ms3.2.1.up (by decide))) (by rw [fr_qf ms3.1, ms3.2.2.2])) ⟨_, _, _, _, rfl⟩
  subst eτ
  rw [<- hsum]
  exact S.ret1 (s := .dat (tI (qf s3))) (E1.var rfl) ⟨rfl, noLs_ints _⟩
theorem scOnL : FnScope ["_law_points", "_law_one", "_law_other", "_law_third", "_law_rows_here", "_law_point", "_law_j", "_law_k", "_law_here", "_law_there"] ["_law_points"] (defScope sOnL) := ⟨rfl, rfl, rfl, by decide +kernel, rfl, by decide +kernel, by decide +kernel⟩
theorem ok_onl (F : Fun K "_law_on_line" "_law_on_line" sOnL f fd)
    (G : FnOk P w K mg base CX0 2 g gd ["_law_top", "_law_bottom"] (spMade K)) (bG : Binds K gd ["_law_top", "_law_bottom"] []) (kG : PySem.W.keepIn K (.ref g) = true) (mG : mg "_law_made" = some (.ref g)) (m_zip : mg "zip" = none) :
    FnOk P w K mg base CX0 3 f fd ["_law_points"] (spP K ROnL) := by
  refine okP F scOnL (fun ds d h => ?_) (fun cdv A0 outer s0 H0 E0 hr => ?_)
  . obtain ⟨a, b, d, v, rfl, _⟩ := h; rfl
  have r := hr.mono (show 2 <= 2 by decide)
  refine ⟨_, (zss_cons (zs_asg (zv 0) (zg_lst rfl (zgs_cons (zg_name (i := 1) scOnL.nd rfl (Or.inl rfl)) (zgs_cons (zg_name (i := 2) scOnL.nd rfl (Or.inl rfl)) (zgs_cons (zg_name (i := 3) scOnL.nd rfl (Or.inl rfl)) zgs_nil)))))
    (zss_cons (zs_set (i := 4) scOnL.nd rfl (Or.inl rfl) (ze_lst za_nil))
    (zss_cons (zs_for PassesOwn.never rfl (zi_list (ze_lst (za_n (zv 2) (za_n (zv 3) za_nil)))) (zg_name (i := 5) scOnL.nd rfl (Or.inl rfl)) (zss_one (zs_expr (ze_append (zv 4) (ze_comp (own := ["_law_a", "_law_b"]) scOnL rfl ⟨by decide +kernel, rfl, by decide +kernel, by decide +kernel, by decide +kernel, by decide +kernel, by decide +kernel, by decide +kernel, by decide +kernel⟩ (zi_zip rfl m_zip (za_n (zv 5) (za_n (zv 1) za_nil))) (fun C fp s H nd => zg_pair rfl nd rfl rfl rfl rfl) (fun C fp s H => zts_nil) (fun C fp s H => (ze_call G r rfl mG kG bG .nil pass0 (za_b (ze_op op_sub (ze_op op_mulB (ze_ix ix_tupC (zv 0) ze_int (fun _ _ => rfl)) (ze_ix ix_tupC (zv 1) ze_int (fun _ _ => rfl))) (ze_op op_mulB (ze_ix ix_tupC (zv 1) ze_int (fun _ _ => rfl)) (ze_ix ix_tupC (zv 0) ze_int (fun _ _ => rfl)))) (za_b (ze_op op_mulB (ze_ix ix_tupC (zv 0) ze_int (fun _ _ => rfl)) (ze_ix ix_tupC (zv 1) ze_int (fun _ _ => rfl))) za_nil)))))))))
    (zss_cons (zs_for PassesOwn.never rfl (zi_list (ze_lst (za_t (ze_tup (za_i (za_i za_nil))) (za_t (ze_tup (za_i (za_i za_nil))) (za_t (ze_tup (za_i (za_i za_nil))) za_nil))))) (zg_tup rfl (zgs_cons (zg_name (i := 6) scOnL.nd rfl (Or.inl rfl)) (zgs_cons (zg_name (i := 7) scOnL.nd rfl (Or.inl rfl)) zgs_nil))) (zss_cons (zs_set (i := 8) scOnL.nd rfl (Or.inl rfl) (ze_tup (za_b (ze_op op_mulB (ze_ix ix_tup (ze_ix ix_list (ze_ix ix_list (zv 4) ze_int (fun _ _ => rfl)) (zv 6) (fun _ _ => rfl)) ze_int (fun _ _ => rfl)) (ze_ix ix_tup (ze_ix ix_list (ze_ix ix_list (zv 4) ze_int (fun _ _ => rfl)) (zv 7) (fun _ _ => rfl)) ze_int (fun _ _ => rfl))) (za_b (ze_op op_mulB (ze_ix ix_tup (ze_ix ix_list (ze_ix ix_list (zv 4) ze_int (fun _ _ => rfl)) (zv 6) (fun _ _ => rfl)) ze_int (fun _ _ => rfl)) (ze_ix ix_tup (ze_ix ix_list (ze_ix ix_list (zv 4) ze_int (fun _ _ => rfl)) (zv 7) (fun _ _ => rfl)) ze_int (fun _ _ => rfl))) za_nil))))
    (zss_cons (zs_set (i := 9) scOnL.nd rfl (Or.inl rfl) (ze_tup (za_b (ze_op op_mulB (ze_ix ix_tup (ze_ix ix_list (ze_ix ix_list (zv 4) ze_int (fun _ _ => rfl)) (zv 7) (fun _ _ => rfl)) ze_int (fun _ _ => rfl)) (ze_ix ix_tup (ze_ix ix_list (ze_ix ix_list (zv 4) ze_int (fun _ _ => rfl)) (zv 6) (fun _ _ => rfl)) ze_int (fun _ _ => rfl))) (za_b (ze_op op_mulB (ze_ix ix_tup (ze_ix ix_list (ze_ix ix_list (zv 4) ze_int (fun _ _ => rfl)) (zv 7) (fun _ _ => rfl)) ze_int (fun _ _ => rfl)) (ze_ix ix_tup (ze_ix ix_list (ze_ix ix_list (zv 4) ze_int (fun _ _ => rfl)) (zv 6) (fun _ _ => rfl)) ze_int (fun _ _ => rfl))) za_nil))))
    (zss_one (zs_if (zt_cmpR op_ne (ze_op op_mulB (ze_ix ix_tup (zv 8) ze_int (fun _ _ => rfl)) (ze_ix ix_tup (zv 9) ze_int (fun _ _ => rfl))) (ze_op op_mulB (ze_ix ix_tup (zv 9) ze_int (fun _ _ => rfl)) (ze_ix ix_tup (zv 8) ze_int (fun _ _ => rfl))) (nomark _)) (zss_one (zs_ret ze_bl)) zss_nil)))))
    (zss_one (zs_ret ze_bl)))))), fun ds d h => ?_⟩
  obtain ⟨a, b, d, v, rfl, ⟨la, lb, ld⟩, hv, rfl⟩ := h
  rw [cx0_iff] at hv
  unfold D.Row3.sub at hv
  dsimp only at hv
  have hux := dif_lo lb.1 la.1
  have mux := dif_made lb.1 la.1
  obtain ⟨ux, eux⟩ : ∃ q : Rat, q = b.x - a.x := ⟨_, rfl⟩
  rw [<- eux] at hux mux
  have huy := dif_lo lb.2.1 la.2.1
  have muy := dif_made lb.2.1 la.2.1
  obtain ⟨uy, euy⟩ : ∃ q : Rat, q = b.y - a.y := ⟨_, rfl⟩
  rw [<- euy] at huy muy
  have huz := dif_lo lb.2.2 la.2.2
  have muz := dif_made lb.2.2 la.2.2
  obtain ⟨uz, euz⟩ : ∃ q : Rat, q = b.z - a.z := ⟨_, rfl⟩
  rw [<- euz] at huz muz
  have hvx := dif_lo ld.1 la.1
  have mvx := dif_made ld.1 la.1
  obtain ⟨vx, evx⟩ : ∃ q : Rat, q = d.x - a.x := ⟨_, rfl⟩
  rw [<- evx] at hvx mvx
  have hvy := dif_lo ld.2.1 la.2.1
  have mvy := dif_made ld.2.1 la.2.1
  obtain ⟨vy, evy⟩ : ∃ q : Rat, q = d.y - a.y := ⟨_, rfl⟩
  rw [<- evy] at hvy mvy
  have hvz := dif_lo ld.2.2 la.2.2
  have mvz := dif_made ld.2.2 la.2.2
  obtain ⟨vz, evz⟩ : ∃ q : Rat, q = d.z - a.z := ⟨_, rfl⟩
  rw [<- evz] at hvz mvz
  rw [<- eux, <- euy, <- euz, <- evx, <- evy, <- evz] at hv
  have fal : ¬ (ux * vy = uy * vx /\ uy * vz = uz * vy /\ uz * vx = ux * vz) -> v = false := fun h => by
    cases v with
    | false => rfl
    | true => exact absurd (hv.mp rfl) h
  refine S.letG (E1.var rfl) (Gd.lst (is := [1, 2, 3]) (ds := [a.d, b.d, d.d]) rfl) ?_
  refine S.letO (ds := []) (E1.li A1.nil rfl (lsz (n := 0) rfl z0)) rfl ?_
  refine S.seq (M := fun τ' => ∃ o5 : Sl, τ' = [.dat (.list [a.d, b.d, d.d]), .dat a.d, .dat b.d, .dat d.d, .own [.list [tI (qf ux), tI (qf uy), tI (qf uz)], .list [tI (qf vx), tI (qf vy), tI (qf vz)]], o5, .un, .un, .un, .un]) ?_ fun τ' ⟨o5, eτ⟩ => ?_
  . refine S.for (ds := [b.d, d.d]) (Wk.lst (E1.frz (E1.li (A1.cons (E1.var rfl) (A1.cons (E1.var rfl) A1.nil)) rfl (lsz (n := 2) rfl z2)))) (fun i τ' => ∃ o5 : Sl, τ' = [.dat (.list [a.d, b.d, d.d]), .dat a.d, .dat b.d, .dat d.d, .own ([.list [tI (qf ux), tI (qf uy), tI (qf uz)], .list [tI (qf vx), tI (qf vy), tI (qf vz)]].take i), o5, .un, .un, .un, .un]) ⟨_, rfl⟩ (fun i dd τ1 hd ⟨o5, e1⟩ => ?_) (fun τ1 h => h)
    subst e1
    rcases get2' hd with ⟨rfl, rfl⟩ | ⟨rfl, rfl⟩
    . refine ⟨_, Gd.name rfl, ?_⟩
      exact S.appendX (i := 4) (ds := []) (d := .list [tI (qf ux), tI (qf uy), tI (qf uz)]) rfl (E1.frz (E1.compZ3 (Wk.zip (A1.cons (E1.var rfl) (A1.cons (E1.var rfl) A1.nil)) rfl) (E1.to (s' := .dat (tI (qf ux))) (E1.cMade (t := b.x.num * a.x.den - a.x.num * b.x.den) (b := (b.x.den : Int) * a.x.den) (A1.cons (E1.sub (E1.mul (E1.ixT (E1.var rfl) E1.int rfl) (E1.ixT (E1.var rfl) E1.int rfl) (lb.1.bt.mulOk la.1.bb)) (E1.mul (E1.ixT (E1.var rfl) E1.int rfl) (E1.ixT (E1.var rfl) E1.int rfl) (la.1.bt.mulOk lb.1.bb))) (A1.cons (E1.mul (E1.ixT (E1.var rfl) E1.int rfl) (E1.ixT (E1.var rfl) E1.int rfl) (lb.1.bb.mulOk la.1.bb)) A1.nil)) mux.1 (mux.2.1.up (by decide))) (by rw [fr_qf mux.1, mux.2.2.2])) (E1.to (s' := .dat (tI (qf uy))) (E1.cMade (t := b.y.num * a.y.den - a.y.num * b.y.den) (b := (b.y.den : Int) * a.y.den) (A1.cons (E1.sub (E1.mul (E1.ixT (E1.var rfl) E1.int rfl) (E1.ixT (E1.var rfl) E1.int rfl) (lb.2.1.bt.mulOk la.2.1.bb)) (E1.mul (E1.ixT (E1.var rfl) E1.int rfl) (E1.ixT (E1.var rfl) E1.int rfl) (la.2.1.bt.mulOk lb.2.1.bb))) (A1.cons (E1.mul (E1.ixT (E1.var rfl) E1.int rfl) (E1.ixT (E1.var rfl) E1.int rfl) (lb.2.1.bb.mulOk la.2.1.bb)) A1.nil)) muy.1 (muy.2.1.up (by decide))) (by rw [fr_qf muy.1, muy.2.2.2])) (E1.to (s' := .dat (tI (qf uz))) (E1.cMade (t := b.z.num * a.z.den - a.z.num * b.z.den) (b := (b.z.den : Int) * a.z.den) (A1.cons (E1.sub (E1.mul (E1.ixT (E1.var rfl) E1.int rfl) (E1.ixT (E1.var rfl) E1.int rfl) (lb.2.2.bt.mulOk la.2.2.bb)) (E1.mul (E1.ixT (E1.var rfl) E1.int rfl) (E1.ixT (E1.var rfl) E1.int rfl) (la.2.2.bt.mulOk lb.2.2.bb))) (A1.cons (E1.mul (E1.ixT (E1.var rfl) E1.int rfl) (E1.ixT (E1.var rfl) E1.int rfl) (lb.2.2.bb.mulOk la.2.2.bb)) A1.nil)) muz.1 (muz.2.1.up (by decide))) (by rw [fr_qf muz.1, muz.2.2.2])))) (show 0 < sizeLine by decide) ⟨_, rfl⟩
    . refine ⟨_, Gd.name rfl, ?_⟩
      exact S.appendX (i := 4) (ds := [.list [tI (qf ux), tI (qf uy), tI (qf uz)]]) (d := .list [tI (qf vx), tI (qf vy), tI (qf vz)]) rfl (E1.frz (E1.compZ3 (Wk.zip (A1.cons (E1.var rfl) (A1.cons (E1.var rfl) A1.nil)) rfl) (E1.to (s' := .dat (tI (qf vx))) (E1.cMade (t := d.x.num * a.x.den - a.x.num * d.x.den) (b := (d.x.den : Int) * a.x.den) (A1.cons (E1.sub (E1.mul (E1.ixT (E1.var rfl) E1.int rfl) (E1.ixT (E1.var rfl) E1.int rfl) (ld.1.bt.mulOk la.1.bb)) (E1.mul (E1.ixT (E1.var rfl) E1.int rfl) (E1.ixT (E1.var rfl) E1.int rfl) (la.1.bt.mulOk ld.1.bb))) (A1.cons (E1.mul (E1.ixT (E1.var rfl) E1.int rfl) (E1.ixT (E1.var rfl) E1.int rfl) (ld.1.bb.mulOk la.1.bb)) A1.nil)) mvx.1 (mvx.2.1.up (by decide))) (by rw [fr_qf mvx.1, mvx.2.2.2])) (E1.to (s' := .dat (tI (qf vy))) (E1.cMade (t := d.y.num * a.y.den - a.y.num * d.y.den) (b := (d.y.den : Int) * a.y.den) (A1.cons (E1.sub (E1.mul (E1.ixT (E1.var rfl) E1.int rfl) (E1.ixT (E1.var rfl) E1.int rfl) (ld.2.1.bt.mulOk la.2.1.bb)) (E1.mul (E1.ixT (E1.var rfl) E1.int rfl) (E1.ixT (E1.var rfl) E1.int rfl) (la.2.1.bt.mulOk ld.2.1.bb))) (A1.cons (E1.mul (E1.ixT (E1.var rfl) E1.int rfl) (E1.ixT (E1.var rfl) E1.int rfl) (ld.2.1.bb.mulOk la.2.1.bb)) A1.nil)) mvy.1 (mvy.2.1.up (by decide))) (by rw [fr_qf mvy.1, mvy.2.2.2])) (E1.to (s' := .dat (tI (qf vz))) (E1.cMade (t := d.z.num * a.z.den - a.z.num * d.z.den) (b := (d.z.den : Int) * a.z.den) (A1.cons (E1.sub (E1.mul (E1.ixT (E1.var rfl) E1.int rfl) (E1.ixT (E1.var rfl) E1.int rfl) (ld.2.2.bt.mulOk la.2.2.bb)) (E1.mul (E1.ixT (E1.var rfl) E1.int rfl) (E1.ixT (E1.var rfl) E1.int rfl) (la.2.2.bt.mulOk ld.2.2.bb))) (A1.cons (E1.mul (E1.ixT (E1.var rfl) E1.int rfl) (E1.ixT (E1.var rfl) E1.int rfl) (ld.2.2.bb.mulOk la.2.2.bb)) A1.nil)) mvz.1 (mvz.2.1.up (by decide))) (by rw [fr_qf mvz.1, mvz.2.2.2])))) (show 1 < sizeLine by decide) ⟨_, rfl⟩
  subst eτ
  refine S.frz (i := 4) (ds := [.list [tI (qf ux), tI (qf uy), tI (qf uz)], .list [tI (qf vx), tI (qf vy), tI (qf vz)]]) rfl ?_
  refine S.seq (M := fun τ' => (ux * vy = uy * vx /\ uy * vz = uz * vy /\ uz * vx = ux * vz) /\ ∃ o5 o6 o7 o8 o9 : Sl, τ' = [.dat (.list [a.d, b.d, d.d]), .dat a.d, .dat b.d, .dat d.d, .dat (.list [.list [tI (qf ux), tI (qf uy), tI (qf uz)], .list [tI (qf vx), tI (qf vy), tI (qf vz)]]), o5, o6, o7, o8, o9]) ?_ fun τ' ⟨hZ, o5, o6, o7, o8, o9, eτ⟩ => ?_
  . refine S.for (ds := [tI [0, 1], tI [1, 2], tI [2, 0]]) (Wk.lst (E1.frz (E1.li (A1.cons (E1.tu (A1.cons E1.int (A1.cons E1.int A1.nil)) rfl (lsz (n := 2) rfl z2)) (A1.cons (E1.tu (A1.cons E1.int (A1.cons E1.int A1.nil)) rfl (lsz (n := 2) rfl z2)) (A1.cons (E1.tu (A1.cons E1.int (A1.cons E1.int A1.nil)) rfl (lsz (n := 2) rfl z2)) A1.nil))) rfl (lsz (n := 3) rfl z3)))) (fun k τ' => tw (ux * vy = uy * vx) (uy * vz = uz * vy) (uz * vx = ux * vz) k /\ ∃ o5 o6 o7 o8 o9 : Sl, τ' = [.dat (.list [a.d, b.d, d.d]), .dat a.d, .dat b.d, .dat d.d, .dat (.list [.list [tI (qf ux), tI (qf uy), tI (qf uz)], .list [tI (qf vx), tI (qf vy), tI (qf vz)]]), o5, o6, o7, o8, o9]) ⟨trivial, _, _, _, _, _, rfl⟩ (fun k dd τ1 hd ⟨hI, o5, o6, o7, o8, o9, e1⟩ => ?_) (fun τ1 h => h)
    subst e1
    rcases get3 hd with ⟨rfl, rfl⟩ | ⟨rfl, rfl⟩ | ⟨rfl, rfl⟩
    . refine ⟨_, Gd.pair (x := .int 0) (y := .int 1), ?_⟩
      refine S.let1 (s := .dat (tI [ux.num * vy.num, (ux.den : Int) * vy.den])) (E1.tu (A1.cons (E1.mul (E1.ixT (E1.ixL (E1.vwd (E1.ixL (E1.varL rfl) E1.int rfl)) (E1.var rfl) rfl) E1.int rfl) (E1.ixT (E1.ixL (E1.vwd (E1.ixL (E1.varL rfl) E1.int rfl)) (E1.var rfl) rfl) E1.int rfl) (hux.bt.mulOk hvy.bt)) (A1.cons (E1.mul (E1.ixT (E1.ixL (E1.vwd (E1.ixL (E1.varL rfl) E1.int rfl)) (E1.var rfl) rfl) E1.int rfl) (E1.ixT (E1.ixL (E1.vwd (E1.ixL (E1.varL rfl) E1.int rfl)) (E1.var rfl) rfl) E1.int rfl) (hux.bb.mulOk hvy.bb)) A1.nil)) rfl (lsz (n := 2) rfl z2)) ?_
      refine S.let1 (s := .dat (tI [uy.num * vx.num, (uy.den : Int) * vx.den])) (E1.tu (A1.cons (E1.mul (E1.ixT (E1.ixL (E1.vwd (E1.ixL (E1.varL rfl) E1.int rfl)) (E1.var rfl) rfl) E1.int rfl) (E1.ixT (E1.ixL (E1.vwd (E1.ixL (E1.varL rfl) E1.int rfl)) (E1.var rfl) rfl) E1.int rfl) (huy.bt.mulOk hvx.bt)) (A1.cons (E1.mul (E1.ixT (E1.ixL (E1.vwd (E1.ixL (E1.varL rfl) E1.int rfl)) (E1.var rfl) rfl) E1.int rfl) (E1.ixT (E1.ixL (E1.vwd (E1.ixL (E1.varL rfl) E1.int rfl)) (E1.var rfl) rfl) E1.int rfl) (huy.bb.mulOk hvx.bb)) A1.nil)) rfl (lsz (n := 2) rfl z2)) ?_
      refine S.if1 (b := !decide ((ux.num * vy.num) * ((uy.den : Int) * vx.den) = (uy.num * vx.num) * ((ux.den : Int) * vy.den))) (T1.test (E1.ne (E1.mul (E1.ixT (E1.var rfl) E1.int rfl) (E1.ixT (E1.var rfl) E1.int rfl) ((hux.bt.mul hvy.bt).mulOk (huy.bb.mul hvx.bb))) (E1.mul (E1.ixT (E1.var rfl) E1.int rfl) (E1.ixT (E1.var rfl) E1.int rfl) ((huy.bt.mul hvx.bt).mulOk (hux.bb.mul hvy.bb))))) (fun hh => ?_) (fun hh => ?_)
      . have hne : ¬ ux * vy = uy * vx := fun z => ne_of_b hh (cross_iff.mpr z)
        rw [fal fun hz => hne hz.1]
        exact S.ret1 (s := .dat (.bool false)) E1.bl ⟨rfl, rfl⟩
      . have hz : ux * vy = uy * vx := cross_iff.mp (eq_of_b hh)
        exact S.next ⟨hz, _, _, _, _, _, rfl⟩
    . refine ⟨_, Gd.pair (x := .int 1) (y := .int 2), ?_⟩
      refine S.let1 (s := .dat (tI [uy.num * vz.num, (uy.den : Int) * vz.den])) (E1.tu (A1.cons (E1.mul (E1.ixT (E1.ixL (E1.vwd (E1.ixL (E1.varL rfl) E1.int rfl)) (E1.var rfl) rfl) E1.int rfl) (E1.ixT (E1.ixL (E1.vwd (E1.ixL (E1.varL rfl) E1.int rfl)) (E1.var rfl) rfl) E1.int rfl) (huy.bt.mulOk hvz.bt)) (A1.cons (E1.mul (E1.ixT (E1.ixL (E1.vwd (E1.ixL (E1.varL rfl) E1.int rfl)) (E1.var rfl) rfl) E1.int rfl) (E1.ixT (E1.ixL (E1.vwd (E1.ixL (E1.varL rfl) E1.int rfl)) (E1.var rfl) rfl) E1.int rfl) (huy.bb.mulOk hvz.bb)) A1.nil)) rfl (lsz (n := 2) rfl z2)) ?_
      refine S.let1 (s := .dat (tI [uz.num * vy.num, (uz.den : Int) * vy.den])) (E1.tu (A1.cons (E1.mul (E1.ixT (E1.ixL (E1.vwd (E1.ixL (E1.varL rfl) E1.int rfl)) (E1.var rfl) rfl) E1.int rfl) (E1.ixT (E1.ixL (E1.vwd (E1.ixL (E1.varL rfl) E1.int rfl)) (E1.var rfl) rfl) E1.int rfl) (huz.bt.mulOk hvy.bt)) (A1.cons (E1.mul (E1.ixT (E1.ixL (E1.vwd (E1.ixL (E1.varL rfl) E1.int rfl)) (E1.var rfl) rfl) E1.int rfl) (E1.ixT (E1.ixL (E1.vwd (E1.ixL (E1.varL rfl) E1.int rfl)) (E1.var rfl) rfl) E1.int rfl) (huz.bb.mulOk hvy.bb)) A1.nil)) rfl (lsz (n := 2) rfl z2)) ?_
      refine S.if1 (b := !decide ((uy.num * vz.num) * ((uz.den : Int) * vy.den) = (uz.num * vy.num) * ((uy.den : Int) * vz.den))) (T1.test (E1.ne (E1.mul (E1.ixT (E1.var rfl) E1.int rfl) (E1.ixT (E1.var rfl) E1.int rfl) ((huy.bt.mul hvz.bt).mulOk (huz.bb.mul hvy.bb))) (E1.mul (E1.ixT (E1.var rfl) E1.int rfl) (E1.ixT (E1.var rfl) E1.int rfl) ((huz.bt.mul hvy.bt).mulOk (huy.bb.mul hvz.bb))))) (fun hh => ?_) (fun hh => ?_)
      . have hne : ¬ uy * vz = uz * vy := fun z => ne_of_b hh (cross_iff.mpr z)
        rw [fal fun hz => hne hz.2.1]
        exact S.ret1 (s := .dat (.bool false)) E1.bl ⟨rfl, rfl⟩
      . have hz : uy * vz = uz * vy := cross_iff.mp (eq_of_b hh)
        exact S.next ⟨⟨hI, hz⟩, _, _, _, _, _, rfl⟩
    . refine ⟨_, Gd.pair (x := .int 2) (y := .int 0), ?_⟩
      refine S.let1 (s := .dat (tI [uz.num * vx.num, (uz.den : Int) * vx.den])) (E1.tu (A1.cons (E1.mul (E1.ixT (E1.ixL (E1.vwd (E1.ixL (E1.varL rfl) E1.int rfl)) (E1.var rfl) rfl) E1.int rfl) (E1.ixT (E1.ixL (E1.vwd (E1.ixL (E1.varL rfl) E1.int rfl)) (E1.var rfl) rfl) E1.int rfl) (huz.bt.mulOk hvx.bt)) (A1.cons (E1.mul (E1.ixT (E1.ixL (E1.vwd (E1.ixL (E1.varL rfl) E1.int rfl)) (E1.var rfl) rfl) E1.int rfl) (E1.ixT (E1.ixL (E1.vwd (E1.ixL (E1.varL rfl) E1.int rfl)) (E1.var rfl) rfl) E1.int rfl) (huz.bb.mulOk hvx.bb)) A1.nil)) rfl (lsz (n := 2) rfl z2)) ?_
      refine S.let1 (s := .dat (tI [ux.num * vz.num, (ux.den : Int) * vz.den])) (E1.tu (A1.cons (E1.mul (E1.ixT (E1.ixL (E1.vwd (E1.ixL (E1.varL rfl) E1.int rfl)) (E1.var rfl) rfl) E1.int rfl) (E1.ixT (E1.ixL (E1.vwd (E1.ixL (E1.varL rfl) E1.int rfl)) (E1.var rfl) rfl) E1.int rfl) (hux.bt.mulOk hvz.bt)) (A1.cons (E1.mul (E1.ixT (E1.ixL (E1.vwd (E1.ixL (E1.varL rfl) E1.int rfl)) (E1.var rfl) rfl) E1.int rfl) (E1.ixT (E1.ixL (E1.vwd (E1.ixL (E1.varL rfl) E1.int rfl)) (E1.var rfl) rfl) E1.int rfl) (hux.bb.mulOk hvz.bb)) A1.nil)) rfl (lsz (n := 2) rfl z2)) ?_
      refine S.if1 (b := !decide ((uz.num * vx.num) * ((ux.den : Int) * vz.den) = (ux.num * vz.num) * ((uz.den : Int) * vx.den))) (T1.test (E1.ne (E1.mul (E1.ixT (E1.var rfl) E1.int rfl) (E1.ixT (E1.var rfl) E1.int rfl) ((huz.bt.mul hvx.bt).mulOk (hux.bb.mul hvz.bb))) (E1.mul (E1.ixT (E1.var rfl) E1.int rfl) (E1.ixT (E1.var rfl) E1.int rfl) ((hux.bt.mul hvz.bt).mulOk (huz.bb.mul hvx.bb))))) (fun hh => ?_) (fun hh => ?_)
      . have hne : ¬ uz * vx = ux * vz := fun z => ne_of_b hh (cross_iff.mpr z)
        rw [fal fun hz => hne hz.2.2]
        exact S.ret1 (s := .dat (.bool false)) E1.bl ⟨rfl, rfl⟩
      . have hz : uz * vx = ux * vz := cross_iff.mp (eq_of_b hh)
        exact S.next ⟨⟨hI.1, hI.2, hz⟩, _, _, _, _, _, rfl⟩
  subst eτ
  rw [hv.mpr hZ]
  exact S.ret1 (s := .dat (.bool true)) E1.bl ⟨rfl, rfl⟩
theorem scBent26 : FnScope ["_law_purse_here", "_law_others", "_law_at", "_law_k", "_law_top", "_law_bottom", "_law_new", "_law_point"] ["_law_purse_here", "_law_others"] (defScope sBent26) := ⟨rfl, rfl, rfl, by decide +kernel, rfl, by decide +kernel, by decide +kernel⟩
theorem ok_bent26 (F : Fun K "_law_bent" "_law_bent" sBent26 f fd)
    (G : FnOk P w K mg base CX0 1 g gd ["_law_purse_here", "_law_out_of"] spDraw) (bG : Binds K gd ["_law_purse_here", "_law_out_of"] []) (kG : PySem.W.keepIn K (.ref g) = true) (mG : mg "_law_draw" = some (.ref g))
    (G2 : FnOk P w K mg base CX0 3 g2 gd2 ["_law_purse_here"] (spU K RNb3)) (bG2 : Binds K gd2 ["_law_purse_here"] []) (kG2 : PySem.W.keepIn K (.ref g2) = true) (mG2 : mg "_law_near" = some (.ref g2)) :
    FnOk P w K mg base CX0 4 f fd ["_law_purse_here", "_law_others"] (spU K RBn3) := by
  refine okU F scBent26 (fun ds d h => ?_) (fun cdv A0 outer s0 H0 E0 hr => ?_)
  . obtain ⟨o0, o1, o2, rfl, _⟩ := h; rfl
  have r := hr.mono (show 1 <= 3 by decide)
  have r2 := hr.mono (show 3 <= 3 by decide)
  refine ⟨_, (zss_cons (zs_set (i := 2) scBent26.nd rfl (Or.inl rfl) (ze_call G r rfl mG kG bG .nil pass0 (za_n (zv 0) (za_i za_nil))))
    (zss_cons (zs_set (i := 3) scBent26.nd rfl (Or.inl rfl) (ze_call G r rfl mG kG bG .nil pass0 (za_n (zv 0) (za_i za_nil))))
    (zss_cons (zs_asg (ze_ix ix_tup (ze_ix ix_list (zv 1) (zv 2) (fun _ _ => rfl)) (zv 3) (fun _ _ => rfl)) (zg_tup rfl (zgs_cons (zg_name (i := 4) scBent26.nd rfl (Or.inl rfl)) (zgs_cons (zg_name (i := 5) scBent26.nd rfl (Or.inl rfl)) zgs_nil))))
    (zss_cons (zs_set (i := 6) scBent26.nd rfl (Or.inl rfl) (ze_ix ix_list (ze_lst (za_t (ze_tup (za_b (ze_op op_add (zv 4) (zv 5)) (za_n (zv 5) za_nil))) (za_t (ze_tup (za_b (ze_op op_sub ze_int (zv 4)) (za_n (zv 5) za_nil))) (za_s (ze_ix ix_tup (ze_call G2 r2 rfl mG2 kG2 bG2 .nil pass0 (za_n (zv 0) za_nil)) ze_int (fun _ _ => rfl)) za_nil)))) (ze_call G r rfl mG kG bG .nil pass0 (za_n (zv 0) (za_i za_nil))) pix_call) sw_sub)
    (zss_cons (zs_set (i := 7) scBent26.nd rfl (Or.inl rfl) (ze_op op_catW (ze_op op_catW (ze_slice sl_tup (ze_ix ix_list (zv 1) (zv 2) (fun _ _ => rfl)) zo_none (zo_some (zv 3))) (ze_tup (za_n (zv 6) za_nil))) (ze_slice sl_tup (ze_ix ix_list (zv 1) (zv 2) (fun _ _ => rfl)) (zo_some (ze_op op_add (zv 3) ze_int)) zo_none)))
    (zss_one (zs_ret (ze_op op_cat (ze_op op_cat (ze_slice sl_list (zv 1) zo_none (zo_some (zv 2))) (ze_lst (za_n (zv 7) za_nil))) (ze_slice sl_list (zv 1) (zo_some (ze_op op_add (zv 2) ze_int)) zo_none))))))))), fun q0 ds C h => ?_⟩
  obtain ⟨o0, o1, o2, rfl, rfl⟩ := h
  refine S.letC (EI.draw (A1.cons (E1.varP rfl) (A1.cons E1.int A1.nil)) (by decide : (0 : Int) < 3) (by decide)) (fun s ⟨_, e, _⟩ => by rw [e]; rfl) fun s ⟨i, es, hi⟩ => ?_
  subst es
  refine S.letC (EI.draw (A1.cons (E1.varP rfl) (A1.cons E1.int A1.nil)) (by decide : (0 : Int) < 3) (by decide)) (fun s ⟨_, e, _⟩ => by rw [e]; rfl) fun s ⟨j, es, hj⟩ => ?_
  subst es
  have hr := row_at (a := o0) (b := o1) (d := o2) hi
  obtain ⟨r, er, fr'⟩ := hr
  have hy := ent_at (r := r) hj
  obtain ⟨y, ey, fy'⟩ := hy
  refine S.letG (d := .tuple [.int y.num, .int (y.den : Int)]) (E1.ixT (ds := [tI (qf r.x), tI (qf r.y), tI (qf r.z)]) (E1.ixL (ds := [o0.d, o1.d, o2.d]) (d := r.d) (E1.varL rfl) (E1.var rfl) er) (E1.var rfl) ey) (Gd.pair (x := .int y.num) (y := .int (y.den : Int))) ?_
  refine S.letC (E.pick3 (d1 := tI (qf (y + 1))) (d2 := tI (qf (-y))) (C := fun d => ∃ q : Rat, d = tI (qf q) /\ Nb q) (E1.to (s := .dat (tI [y.num + y.den, (y.den : Int)])) (E1.tu (A1.cons (E1.add (E1.var rfl) (E1.var rfl)) (A1.cons (E1.var rfl) A1.nil)) rfl (lsz (n := 2) rfl z2)) (by rw [qf_one])) (E1.to (s := .dat (tI [0 - y.num, (y.den : Int)])) (E1.tu (A1.cons (E1.sub E1.int (E1.var rfl)) (A1.cons (E1.var rfl) A1.nil)) rfl (lsz (n := 2) rfl z2)) (by rw [Int.zero_sub, qf_neg'])) (E.ixC (i := 0) (D := fun ds => ∃ x y z : Rat, ds = [tI (qf x), tI (qf y), tI (qf z)] /\ Nb x) (E.mono (E.callU (R := RNb3) (ds := []) (A1.cons (E1.varP rfl) A1.nil) ⟨rfl, rfl⟩) (fun s ⟨g, es, x, y, z, eg, hx, _, _⟩ => ⟨[tI (qf x), tI (qf y), tI (qf z)], by rw [es, eg]; rfl, x, y, z, rfl, hx⟩)) E1.int (fun ds ⟨x, y, z, ed, hx⟩ => ⟨tI (qf x), by rw [ed]; rfl, x, rfl, hx⟩)) (EI.draw (A1.cons (E1.varP rfl) (A1.cons E1.int A1.nil)) (by decide : (0 : Int) < 3) (by decide))) (fun s ⟨_, e, _⟩ => by rw [e]; rfl) fun s ⟨g, es, hg⟩ => ?_
  subst es
  have hq9 : ∃ q : Rat, g = tI (qf q) /\ ((∃ y, (∀ P : Rat -> Prop, TabP P o0 o1 o2 -> P y) /\ (q = y + 1 \/ q = -y)) \/ Nb q) := by
    rcases hg with rfl | rfl | ⟨q, rfl, hn⟩
    . exact ⟨y + 1, rfl, .inl ⟨y, fun P h => fy' P (fr' P h), .inl rfl⟩⟩
    . exact ⟨-y, rfl, .inl ⟨y, fun P h => fy' P (fr' P h), .inr rfl⟩⟩
    . exact ⟨q, rfl, .inr hn⟩
  obtain ⟨q, rfl, hq⟩ := hq9
  have h9 : (i = 0 \/ i = 1 \/ i = 2) /\ (j = 0 \/ j = 1 \/ j = 2) := by omega
  clear hi hj hg er ey
  obtain ⟨rfl | rfl | rfl, rfl | rfl | rfl⟩ := h9
  . refine S.let1 (s := .dat (D.Row3.d (D.Row3.mk (q) (o0.y) (o0.z)))) (E1.to (E1.catT (E1.catT (E1.slT (lo := none) (hi := some 0) (E1.ixL (E1.varL rfl) (E1.var rfl) rfl) O1.none (O1.some (E1.var rfl)) (show ¬ (HT.sIx 3 0 none = 0 /\ HT.sIx 3 3 (some 0) = 3) by decide)) (E1.tu (A1.cons (E1.var rfl) A1.nil) rfl (lsz (n := 1) rfl z1)) (show 1 <= sizeLine by decide)) (E1.slT (lo := some (0 + 1)) (hi := none) (E1.ixL (E1.varL rfl) (E1.var rfl) rfl) (O1.some (E1.add (E1.var rfl) E1.int)) O1.none (show ¬ (HT.sIx 3 0 (some (0 + 1)) = 0 /\ HT.sIx 3 3 none = 3) by decide)) (show 3 <= sizeLine by decide)) rfl) ?_
    exact S.ret1 (s := .own [D.Row3.d (D.Row3.mk (q) (o0.y) (o0.z)), D.Row3.d o1, D.Row3.d o2]) (E1.to (E1.catL (xs := [D.Row3.d (D.Row3.mk (q) (o0.y) (o0.z))]) (ys := [o1.d, o2.d]) (E1.to (E1.catL (xs := []) (ys := [D.Row3.d (D.Row3.mk (q) (o0.y) (o0.z))]) (E1.to (E1.slL (lo := none) (hi := some 0) (E1.varL rfl) O1.none (O1.some (E1.var rfl))) rfl) (E1.li (A1.cons (E1.var rfl) A1.nil) rfl (lsz (n := 1) rfl z1)) (show 1 <= sizeLine by decide)) rfl) (E1.to (E1.slL (lo := some (0 + 1)) (hi := none) (E1.varL rfl) (O1.some (E1.add (E1.var rfl) E1.int)) O1.none) rfl) (show 3 <= sizeLine by decide)) rfl) ⟨_, ⟨(D.Row3.mk (q) (o0.y) (o0.z)), o1, o2, q, rfl, fun P h hy => ⟨⟨hy, h.1.2.1, h.1.2.2⟩, ⟨h.2.1.1, h.2.1.2.1, h.2.1.2.2⟩, ⟨h.2.2.1, h.2.2.2.1, h.2.2.2.2⟩⟩, hq⟩, rfl, rfl⟩
  . refine S.let1 (s := .dat (D.Row3.d (D.Row3.mk (o0.x) (q) (o0.z)))) (E1.to (E1.catT (E1.catT (E1.slT (lo := none) (hi := some 1) (E1.ixL (E1.varL rfl) (E1.var rfl) rfl) O1.none (O1.some (E1.var rfl)) (show ¬ (HT.sIx 3 0 none = 0 /\ HT.sIx 3 3 (some 1) = 3) by decide)) (E1.tu (A1.cons (E1.var rfl) A1.nil) rfl (lsz (n := 1) rfl z1)) (show 2 <= sizeLine by decide)) (E1.slT (lo := some (1 + 1)) (hi := none) (E1.ixL (E1.varL rfl) (E1.var rfl) rfl) (O1.some (E1.add (E1.var rfl) E1.int)) O1.none (show ¬ (HT.sIx 3 0 (some (1 + 1)) = 0 /\ HT.sIx 3 3 none = 3) by decide)) (show 3 <= sizeLine by decide)) rfl) ?_
    exact S.ret1 (s := .own [D.Row3.d (D.Row3.mk (o0.x) (q) (o0.z)), D.Row3.d o1, D.Row3.d o2]) (E1.to (E1.catL (xs := [D.Row3.d (D.Row3.mk (o0.x) (q) (o0.z))]) (ys := [o1.d, o2.d]) (E1.to (E1.catL (xs := []) (ys := [D.Row3.d (D.Row3.mk (o0.x) (q) (o0.z))]) (E1.to (E1.slL (lo := none) (hi := some 0) (E1.varL rfl) O1.none (O1.some (E1.var rfl))) rfl) (E1.li (A1.cons (E1.var rfl) A1.nil) rfl (lsz (n := 1) rfl z1)) (show 1 <= sizeLine by decide)) rfl) (E1.to (E1.slL (lo := some (0 + 1)) (hi := none) (E1.varL rfl) (O1.some (E1.add (E1.var rfl) E1.int)) O1.none) rfl) (show 3 <= sizeLine by decide)) rfl) ⟨_, ⟨(D.Row3.mk (o0.x) (q) (o0.z)), o1, o2, q, rfl, fun P h hy => ⟨⟨h.1.1, hy, h.1.2.2⟩, ⟨h.2.1.1, h.2.1.2.1, h.2.1.2.2⟩, ⟨h.2.2.1, h.2.2.2.1, h.2.2.2.2⟩⟩, hq⟩, rfl, rfl⟩
  . refine S.let1 (s := .dat (D.Row3.d (D.Row3.mk (o0.x) (o0.y) (q)))) (E1.to (E1.catT (E1.catT (E1.slT (lo := none) (hi := some 2) (E1.ixL (E1.varL rfl) (E1.var rfl) rfl) O1.none (O1.some (E1.var rfl)) (show ¬ (HT.sIx 3 0 none = 0 /\ HT.sIx 3 3 (some 2) = 3) by decide)) (E1.tu (A1.cons (E1.var rfl) A1.nil) rfl (lsz (n := 1) rfl z1)) (show 3 <= sizeLine by decide)) (E1.slT (lo := some (2 + 1)) (hi := none) (E1.ixL (E1.varL rfl) (E1.var rfl) rfl) (O1.some (E1.add (E1.var rfl) E1.int)) O1.none (show ¬ (HT.sIx 3 0 (some (2 + 1)) = 0 /\ HT.sIx 3 3 none = 3) by decide)) (show 3 <= sizeLine by decide)) rfl) ?_
    exact S.ret1 (s := .own [D.Row3.d (D.Row3.mk (o0.x) (o0.y) (q)), D.Row3.d o1, D.Row3.d o2]) (E1.to (E1.catL (xs := [D.Row3.d (D.Row3.mk (o0.x) (o0.y) (q))]) (ys := [o1.d, o2.d]) (E1.to (E1.catL (xs := []) (ys := [D.Row3.d (D.Row3.mk (o0.x) (o0.y) (q))]) (E1.to (E1.slL (lo := none) (hi := some 0) (E1.varL rfl) O1.none (O1.some (E1.var rfl))) rfl) (E1.li (A1.cons (E1.var rfl) A1.nil) rfl (lsz (n := 1) rfl z1)) (show 1 <= sizeLine by decide)) rfl) (E1.to (E1.slL (lo := some (0 + 1)) (hi := none) (E1.varL rfl) (O1.some (E1.add (E1.var rfl) E1.int)) O1.none) rfl) (show 3 <= sizeLine by decide)) rfl) ⟨_, ⟨(D.Row3.mk (o0.x) (o0.y) (q)), o1, o2, q, rfl, fun P h hy => ⟨⟨h.1.1, h.1.2.1, hy⟩, ⟨h.2.1.1, h.2.1.2.1, h.2.1.2.2⟩, ⟨h.2.2.1, h.2.2.2.1, h.2.2.2.2⟩⟩, hq⟩, rfl, rfl⟩
  . refine S.let1 (s := .dat (D.Row3.d (D.Row3.mk (q) (o1.y) (o1.z)))) (E1.to (E1.catT (E1.catT (E1.slT (lo := none) (hi := some 0) (E1.ixL (E1.varL rfl) (E1.var rfl) rfl) O1.none (O1.some (E1.var rfl)) (show ¬ (HT.sIx 3 0 none = 0 /\ HT.sIx 3 3 (some 0) = 3) by decide)) (E1.tu (A1.cons (E1.var rfl) A1.nil) rfl (lsz (n := 1) rfl z1)) (show 1 <= sizeLine by decide)) (E1.slT (lo := some (0 + 1)) (hi := none) (E1.ixL (E1.varL rfl) (E1.var rfl) rfl) (O1.some (E1.add (E1.var rfl) E1.int)) O1.none (show ¬ (HT.sIx 3 0 (some (0 + 1)) = 0 /\ HT.sIx 3 3 none = 3) by decide)) (show 3 <= sizeLine by decide)) rfl) ?_
    exact S.ret1 (s := .own [D.Row3.d o0, D.Row3.d (D.Row3.mk (q) (o1.y) (o1.z)), D.Row3.d o2]) (E1.to (E1.catL (xs := [o0.d, D.Row3.d (D.Row3.mk (q) (o1.y) (o1.z))]) (ys := [o2.d]) (E1.to (E1.catL (xs := [o0.d]) (ys := [D.Row3.d (D.Row3.mk (q) (o1.y) (o1.z))]) (E1.to (E1.slL (lo := none) (hi := some 1) (E1.varL rfl) O1.none (O1.some (E1.var rfl))) rfl) (E1.li (A1.cons (E1.var rfl) A1.nil) rfl (lsz (n := 1) rfl z1)) (show 2 <= sizeLine by decide)) rfl) (E1.to (E1.slL (lo := some (1 + 1)) (hi := none) (E1.varL rfl) (O1.some (E1.add (E1.var rfl) E1.int)) O1.none) rfl) (show 3 <= sizeLine by decide)) rfl) ⟨_, ⟨o0, (D.Row3.mk (q) (o1.y) (o1.z)), o2, q, rfl, fun P h hy => ⟨⟨h.1.1, h.1.2.1, h.1.2.2⟩, ⟨hy, h.2.1.2.1, h.2.1.2.2⟩, ⟨h.2.2.1, h.2.2.2.1, h.2.2.2.2⟩⟩, hq⟩, rfl, rfl⟩
  . refine S.let1 (s := .dat (D.Row3.d (D.Row3.mk (o1.x) (q) (o1.z)))) (E1.to (E1.catT (E1.catT (E1.slT (lo := none) (hi := some 1) (E1.ixL (E1.varL rfl) (E1.var rfl) rfl) O1.none (O1.some (E1.var rfl)) (show ¬ (HT.sIx 3 0 none = 0 /\ HT.sIx 3 3 (some 1) = 3) by decide)) (E1.tu (A1.cons (E1.var rfl) A1.nil) rfl (lsz (n := 1) rfl z1)) (show 2 <= sizeLine by decide)) (E1.slT (lo := some (1 + 1)) (hi := none) (E1.ixL (E1.varL rfl) (E1.var rfl) rfl) (O1.some (E1.add (E1.var rfl) E1.int)) O1.none (show ¬ (HT.sIx 3 0 (some (1 + 1)) = 0 /\ HT.sIx 3 3 none = 3) by decide)) (show 3 <= sizeLine by decide)) rfl) ?_
    exact S.ret1 (s := .own [D.Row3.d o0, D.Row3.d (D.Row3.mk (o1.x) (q) (o1.z)), D.Row3.d o2]) (E1.to (E1.catL (xs := [o0.d, D.Row3.d (D.Row3.mk (o1.x) (q) (o1.z))]) (ys := [o2.d]) (E1.to (E1.catL (xs := [o0.d]) (ys := [D.Row3.d (D.Row3.mk (o1.x) (q) (o1.z))]) (E1.to (E1.slL (lo := none) (hi := some 1) (E1.varL rfl) O1.none (O1.some (E1.var rfl))) rfl) (E1.li (A1.cons (E1.var rfl) A1.nil) rfl (lsz (n := 1) rfl z1)) (show 2 <= sizeLine by decide)) rfl) (E1.to (E1.slL (lo := some (1 + 1)) (hi := none) (E1.varL rfl) (O1.some (E1.add (E1.var rfl) E1.int)) O1.none) rfl) (show 3 <= sizeLine by decide)) rfl) ⟨_, ⟨o0, (D.Row3.mk (o1.x) (q) (o1.z)), o2, q, rfl, fun P h hy => ⟨⟨h.1.1, h.1.2.1, h.1.2.2⟩, ⟨h.2.1.1, hy, h.2.1.2.2⟩, ⟨h.2.2.1, h.2.2.2.1, h.2.2.2.2⟩⟩, hq⟩, rfl, rfl⟩
  . refine S.let1 (s := .dat (D.Row3.d (D.Row3.mk (o1.x) (o1.y) (q)))) (E1.to (E1.catT (E1.catT (E1.slT (lo := none) (hi := some 2) (E1.ixL (E1.varL rfl) (E1.var rfl) rfl) O1.none (O1.some (E1.var rfl)) (show ¬ (HT.sIx 3 0 none = 0 /\ HT.sIx 3 3 (some 2) = 3) by decide)) (E1.tu (A1.cons (E1.var rfl) A1.nil) rfl (lsz (n := 1) rfl z1)) (show 3 <= sizeLine by decide)) (E1.slT (lo := some (2 + 1)) (hi := none) (E1.ixL (E1.varL rfl) (E1.var rfl) rfl) (O1.some (E1.add (E1.var rfl) E1.int)) O1.none (show ¬ (HT.sIx 3 0 (some (2 + 1)) = 0 /\ HT.sIx 3 3 none = 3) by decide)) (show 3 <= sizeLine by decide)) rfl) ?_
    exact S.ret1 (s := .own [D.Row3.d o0, D.Row3.d (D.Row3.mk (o1.x) (o1.y) (q)), D.Row3.d o2]) (E1.to (E1.catL (xs := [o0.d, D.Row3.d (D.Row3.mk (o1.x) (o1.y) (q))]) (ys := [o2.d]) (E1.to (E1.catL (xs := [o0.d]) (ys := [D.Row3.d (D.Row3.mk (o1.x) (o1.y) (q))]) (E1.to (E1.slL (lo := none) (hi := some 1) (E1.varL rfl) O1.none (O1.some (E1.var rfl))) rfl) (E1.li (A1.cons (E1.var rfl) A1.nil) rfl (lsz (n := 1) rfl z1)) (show 2 <= sizeLine by decide)) rfl) (E1.to (E1.slL (lo := some (1 + 1)) (hi := none) (E1.varL rfl) (O1.some (E1.add (E1.var rfl) E1.int)) O1.none) rfl) (show 3 <= sizeLine by decide)) rfl) ⟨_, ⟨o0, (D.Row3.mk (o1.x) (o1.y) (q)), o2, q, rfl, fun P h hy => ⟨⟨h.1.1, h.1.2.1, h.1.2.2⟩, ⟨h.2.1.1, h.2.1.2.1, hy⟩, ⟨h.2.2.1, h.2.2.2.1, h.2.2.2.2⟩⟩, hq⟩, rfl, rfl⟩
  . refine S.let1 (s := .dat (D.Row3.d (D.Row3.mk (q) (o2.y) (o2.z)))) (E1.to (E1.catT (E1.catT (E1.slT (lo := none) (hi := some 0) (E1.ixL (E1.varL rfl) (E1.var rfl) rfl) O1.none (O1.some (E1.var rfl)) (show ¬ (HT.sIx 3 0 none = 0 /\ HT.sIx 3 3 (some 0) = 3) by decide)) (E1.tu (A1.cons (E1.var rfl) A1.nil) rfl (lsz (n := 1) rfl z1)) (show 1 <= sizeLine by decide)) (E1.slT (lo := some (0 + 1)) (hi := none) (E1.ixL (E1.varL rfl) (E1.var rfl) rfl) (O1.some (E1.add (E1.var rfl) E1.int)) O1.none (show ¬ (HT.sIx 3 0 (some (0 + 1)) = 0 /\ HT.sIx 3 3 none = 3) by decide)) (show 3 <= sizeLine by decide)) rfl) ?_
    exact S.ret1 (s := .own [D.Row3.d o0, D.Row3.d o1, D.Row3.d (D.Row3.mk (q) (o2.y) (o2.z))]) (E1.to (E1.catL (xs := [o0.d, o1.d, D.Row3.d (D.Row3.mk (q) (o2.y) (o2.z))]) (ys := []) (E1.to (E1.catL (xs := [o0.d, o1.d]) (ys := [D.Row3.d (D.Row3.mk (q) (o2.y) (o2.z))]) (E1.to (E1.slL (lo := none) (hi := some 2) (E1.varL rfl) O1.none (O1.some (E1.var rfl))) rfl) (E1.li (A1.cons (E1.var rfl) A1.nil) rfl (lsz (n := 1) rfl z1)) (show 3 <= sizeLine by decide)) rfl) (E1.to (E1.slL (lo := some (2 + 1)) (hi := none) (E1.varL rfl) (O1.some (E1.add (E1.var rfl) E1.int)) O1.none) rfl) (show 3 <= sizeLine by decide)) rfl) ⟨_, ⟨o0, o1, (D.Row3.mk (q) (o2.y) (o2.z)), q, rfl, fun P h hy => ⟨⟨h.1.1, h.1.2.1, h.1.2.2⟩, ⟨h.2.1.1, h.2.1.2.1, h.2.1.2.2⟩, ⟨hy, h.2.2.2.1, h.2.2.2.2⟩⟩, hq⟩, rfl, rfl⟩
  . refine S.let1 (s := .dat (D.Row3.d (D.Row3.mk (o2.x) (q) (o2.z)))) (E1.to (E1.catT (E1.catT (E1.slT (lo := none) (hi := some 1) (E1.ixL (E1.varL rfl) (E1.var rfl) rfl) O1.none (O1.some (E1.var rfl)) (show ¬ (HT.sIx 3 0 none = 0 /\ HT.sIx 3 3 (some 1) = 3) by decide)) (E1.tu (A1.cons (E1.var rfl) A1.nil) rfl (lsz (n := 1) rfl z1)) (show 2 <= sizeLine by decide)) (E1.slT (lo := some (1 + 1)) (hi := none) (E1.ixL (E1.varL rfl) (E1.var rfl) rfl) (O1.some (E1.add (E1.var rfl) E1.int)) O1.none (show ¬ (HT.sIx 3 0 (some (1 + 1)) = 0 /\ HT.sIx 3 3 none = 3) by decide)) (show 3 <= sizeLine by decide)) rfl) ?_
    exact S.ret1 (s := .own [D.Row3.d o0, D.Row3.d o1, D.Row3.d (D.Row3.mk (o2.x) (q) (o2.z))]) (E1.to (E1.catL (xs := [o0.d, o1.d, D.Row3.d (D.Row3.mk (o2.x) (q) (o2.z))]) (ys := []) (E1.to (E1.catL (xs := [o0.d, o1.d]) (ys := [D.Row3.d (D.Row3.mk (o2.x) (q) (o2.z))]) (E1.to (E1.slL (lo := none) (hi := some 2) (E1.varL rfl) O1.none (O1.some (E1.var rfl))) rfl) (E1.li (A1.cons (E1.var rfl) A1.nil) rfl (lsz (n := 1) rfl z1)) (show 3 <= sizeLine by decide)) rfl) (E1.to (E1.slL (lo := some (2 + 1)) (hi := none) (E1.varL rfl) (O1.some (E1.add (E1.var rfl) E1.int)) O1.none) rfl) (show 3 <= sizeLine by decide)) rfl) ⟨_, ⟨o0, o1, (D.Row3.mk (o2.x) (q) (o2.z)), q, rfl, fun P h hy => ⟨⟨h.1.1, h.1.2.1, h.1.2.2⟩, ⟨h.2.1.1, h.2.1.2.1, h.2.1.2.2⟩, ⟨h.2.2.1, hy, h.2.2.2.2⟩⟩, hq⟩, rfl, rfl⟩
  . refine S.let1 (s := .dat (D.Row3.d (D.Row3.mk (o2.x) (o2.y) (q)))) (E1.to (E1.catT (E1.catT (E1.slT (lo := none) (hi := some 2) (E1.ixL (E1.varL rfl) (E1.var rfl) rfl) O1.none (O1.some (E1.var rfl)) (show ¬ (HT.sIx 3 0 none = 0 /\ HT.sIx 3 3 (some 2) = 3) by decide)) (E1.tu (A1.cons (E1.var rfl) A1.nil) rfl (lsz (n := 1) rfl z1)) (show 3 <= sizeLine by decide)) (E1.slT (lo := some (2 + 1)) (hi := none) (E1.ixL (E1.varL rfl) (E1.var rfl) rfl) (O1.some (E1.add (E1.var rfl) E1.int)) O1.none (show ¬ (HT.sIx 3 0 (some (2 + 1)) = 0 /\ HT.sIx 3 3 none = 3) by decide)) (show 3 <= sizeLine by decide)) rfl) ?_
    exact S.ret1 (s := .own [D.Row3.d o0, D.Row3.d o1, D.Row3.d (D.Row3.mk (o2.x) (o2.y) (q))]) (E1.to (E1.catL (xs := [o0.d, o1.d, D.Row3.d (D.Row3.mk (o2.x) (o2.y) (q))]) (ys := []) (E1.to (E1.catL (xs := [o0.d, o1.d]) (ys := [D.Row3.d (D.Row3.mk (o2.x) (o2.y) (q))]) (E1.to (E1.slL (lo := none) (hi := some 2) (E1.varL rfl) O1.none (O1.some (E1.var rfl))) rfl) (E1.li (A1.cons (E1.var rfl) A1.nil) rfl (lsz (n := 1) rfl z1)) (show 3 <= sizeLine by decide)) rfl) (E1.to (E1.slL (lo := some (2 + 1)) (hi := none) (E1.varL rfl) (O1.some (E1.add (E1.var rfl) E1.int)) O1.none) rfl) (show 3 <= sizeLine by decide)) rfl) ⟨_, ⟨o0, o1, (D.Row3.mk (o2.x) (o2.y) (q)), q, rfl, fun P h hy => ⟨⟨h.1.1, h.1.2.1, h.1.2.2⟩, ⟨h.2.1.1, h.2.1.2.1, h.2.1.2.2⟩, ⟨h.2.2.1, h.2.2.2.1, hy⟩⟩, hq⟩, rfl, rfl⟩
theorem scRight26 : FnScope ["_law_points", "_law_others", "_law_due", "_law_found", "_law_i", "_law_j", "_law_four", "_law_shift", "_law_point", "_law_other"] ["_law_points", "_law_others", "_law_due"] (defScope sRight26) := ⟨rfl, rfl, rfl, by decide +kernel, rfl, by decide +kernel, by decide +kernel⟩
theorem ok_right26 (F : Fun K "_law_right" "_law_right" sRight26 f fd)
    (G : FnOk P w K mg base CX0 6 g gd ["points", "others"] (spQ K RLedT)) (bG : Binds K gd ["points", "others"] []) (kG : PySem.W.keepIn K (.ref g) = true) (mG : mg "led_three" = some (.ref g))
    (G2 : FnOk P w K mg base CX0 3 g2 gd2 ["_law_one", "_law_other"] (spP K RSq2)) (bG2 : Binds K gd2 ["_law_one", "_law_other"] []) (kG2 : PySem.W.keepIn K (.ref g2) = true) (mG2 : mg "_law_square" = some (.ref g2))
    (G3 : FnOk P w K mg base CX0 2 g3 gd3 ["_law_found", "_law_due"] (spP K RIsPoint)) (bG3 : Binds K gd3 ["_law_found", "_law_due"] []) (kG3 : PySem.W.keepIn K (.ref g3) = true) (mG3 : mg "_law_is_point" = some (.ref g3))
    (G4 : FnOk P w K mg base CX0 2 g4 gd4 ["_law_four"] (spT K (fun ns => (∃ n ∈ ns, n ≠ 0) /\ Sm ns) pl)) (bG4 : Binds K gd4 ["_law_four"] []) (kG4 : PySem.W.keepIn K (.ref g4) = true) (mG4 : mg "_law_plain" = some (.ref g4))
    (G5 : FnOk P w K mg base CX0 3 g5 gd5 ["_law_one", "_law_other"] (spP K RAdded)) (bG5 : Binds K gd5 ["_law_one", "_law_other"] []) (kG5 : PySem.W.keepIn K (.ref g5) = true) (mG5 : mg "_law_added" = some (.ref g5))
    (G6 : FnOk P w K mg base CX0 3 g6 gd6 ["_law_four", "_law_point"] (spTurned K)) (bG6 : Binds K gd6 ["_law_four", "_law_point"] []) (kG6 : PySem.W.keepIn K (.ref g6) = true) (mG6 : mg "_law_turned" = some (.ref g6)) (m_tuple : mg "tuple" = none) (m_len : mg "len" = none) (m_isinstance : mg "isinstance" = none) (m_zip : mg "zip" = none) :
    FnOk P w K mg base CX0 7 f fd ["_law_points", "_law_others", "_law_due"] (spP K RRt3) := by
  refine okP F scRight26 (fun ds d h => ?_) (fun cdv A0 outer s0 H0 E0 hr => ?_)
  . obtain ⟨p0, p1, p2, o0, o1, o2, dd, rfl, _⟩ := h; rfl
  have r := hr.mono (show 6 <= 6 by decide)
  have r2 := hr.mono (show 3 <= 6 by decide)
  have r3 := hr.mono (show 2 <= 6 by decide)
  have r4 := hr.mono (show 2 <= 6 by decide)
  have r5 := hr.mono (show 3 <= 6 by decide)
  have r6 := hr.mono (show 3 <= 6 by decide)
  refine ⟨_, (zss_cons (zs_set (i := 3) scRight26.nd rfl (Or.inl rfl) (ze_call G r rfl mG kG bG .nil pass0 (za_n (zv 0) (za_n (zv 1) za_nil))))
    (zss_cons (zs_if (zt_cmpR (op_neD hr.units) (ze_call G r rfl mG kG bG .nil pass0 (za_c (ze_callTy call_tuple_of rfl m_tuple (by rfl) (za_n (zv 0) za_nil)) (za_c (ze_callTy call_tuple_of rfl m_tuple (by rfl) (za_n (zv 1) za_nil)) za_nil))) (zv 3) (nomark _)) (zss_one (zs_ret ze_bl)) zss_nil)
    (zss_cons (zs_for PassesOwn.never rfl (zi_list (ze_lst (za_t (ze_tup (za_i (za_i za_nil))) (za_t (ze_tup (za_i (za_i za_nil))) (za_t (ze_tup (za_i (za_i za_nil))) za_nil))))) (zg_tup rfl (zgs_cons (zg_name (i := 4) scRight26.nd rfl (Or.inl rfl)) (zgs_cons (zg_name (i := 5) scRight26.nd rfl (Or.inl rfl)) zgs_nil))) (zss_one (zs_if (zt_cmpR (op_neD hr.units) (ze_call G2 r2 rfl mG2 kG2 bG2 .nil pass0 (za_s (ze_ix ix_list (zv 0) (zv 4) (fun _ _ => rfl)) (za_s (ze_ix ix_list (zv 0) (zv 5) (fun _ _ => rfl)) za_nil))) (ze_call G2 r2 rfl mG2 kG2 bG2 .nil pass0 (za_s (ze_ix ix_list (zv 1) (zv 4) (fun _ _ => rfl)) (za_s (ze_ix ix_list (zv 1) (zv 5) (fun _ _ => rfl)) za_nil))) (nomark _)) (zss_one (zs_ret (ze_cmpR (op_eqD hr.units) (zv 3) (ze_tup (za_cons ze_str (za_n (zv 4) (za_n (zv 5) za_nil)))) (nomark _)))) zss_nil)))
    (zss_cons (zs_if (ZW.pt (zw_or (zt_not (zt_val (ze_callB (call_isiD (T := "tuple")) rfl m_isinstance (by rfl) (za_n (zv 3) (za_n (ze_tyn rfl m_tuple (by rfl)) za_nil))))) (zw_or (zt_cmpR op_ne (ze_callB call_len_seq rfl m_len PySem.boot_len (za_n (zv 3) za_nil)) ze_int (nomark _)) (zw_or1 (zt_cmpR op_ne (ze_ix ix_tup (zv 3) ze_int (fun _ _ => rfl)) ze_str (nomark _)))))) (zss_one (zs_ret ze_bl)) zss_nil)
    (zss_cons (zs_asg (ze_ix ix_tup (zv 3) ze_int (fun _ _ => rfl)) (zg_tup rfl (zgs_cons (zg_name (i := 6) scRight26.nd rfl (Or.inl rfl)) (zgs_cons (zg_name (i := 7) scRight26.nd rfl (Or.inl rfl)) zgs_nil))))
    (zss_cons (zs_if (ZW.pt (zw_or (zt_cmpR (op_neD hr.units) (zv 6) (ze_call G4 r4 rfl mG4 kG4 bG4 .nil pass0 (za_n (zv 6) za_nil)) (nomark _)) (zw_or (zt_not (zt_val (ze_call G3 r3 rfl mG3 kG3 bG3 .nil pass0 (za_n (zv 7) (za_n (zv 7) za_nil))))) (zw_or1 (ZW.pt (zw_and (zt_cmpR op_notN (zv 2) ze_non (nomark _)) (zw_and1 (zt_cmpR (op_neD hr.units) (ze_ix ix_tup (zv 3) ze_int (fun _ _ => rfl)) (zv 2) (nomark _))))))))) (zss_one (zs_ret ze_bl)) zss_nil)
    (zss_cons (zs_for PassesOwn.never rfl (zi_zipG true true rfl m_zip (za_n (zv 0) (za_n (zv 1) za_nil))) (zg_tup rfl (zgs_cons (zg_name (i := 8) scRight26.nd rfl (Or.inl rfl)) (zgs_cons (zg_name (i := 9) scRight26.nd rfl (Or.inl rfl)) zgs_nil))) (zss_one (zs_if (zt_cmpR (op_neD hr.units) (ze_call G5 r5 rfl mG5 kG5 bG5 .nil pass0 (za_c (ze_call G6 r6 rfl mG6 kG6 bG6 .nil pass0 (za_n (zv 6) (za_n (zv 8) za_nil))) (za_n (zv 7) za_nil))) (zv 9) (nomark _)) (zss_one (zs_ret ze_bl)) zss_nil)))
    (zss_one (zs_ret ze_bl))))))))), fun ds d h => ?_⟩
  obtain ⟨p0, p1, p2, o0, o1, o2, dd, rfl, tp, to, n3, hdd, rfl⟩ := h
  have lp := tp.lh (by decide)
  have lo := to.lh (by decide)
  refine S.letC (E.callQ (R := RLedT) (ds := [sqD true [p0.d, p1.d, p2.d], sqD true [o0.d, o1.d, o2.d]]) (A1.cons (E1.var rfl) (A1.cons (E1.var rfl) A1.nil)) ⟨true, true, p0, p1, p2, o0, o1, o2, rfl, tp, to, n3, rfl⟩) (fun s ⟨_, e, _⟩ => by rw [e]; rfl) fun s ⟨g, es, hg⟩ => ?_
  subst es
  have h1 : E1 (none : Option Addr) K _ _ (.dat g) := (E.mono (E.callQ (R := RLedT) (E' := E0) (K := K) (p := none) (τ := [.dat (.list [p0.d, p1.d, p2.d]), .dat (.list [o0.d, o1.d, o2.d]), .dat dd, .dat g, .un, .un, .un, .un, .un, .un]) (ds := [sqD false [p0.d, p1.d, p2.d], sqD false [o0.d, o1.d, o2.d]]) (A1.cons (E1.tupleL (A1.cons (E1.varL (i := 0) rfl) A1.nil)) (A1.cons (E1.tupleL (A1.cons (E1.varL (i := 1) rfl) A1.nil)) A1.nil)) ⟨false, false, p0, p1, p2, o0, o1, o2, rfl, tp, to, n3, rfl⟩) (fun s ⟨g', es, hg'⟩ => by rw [es, led_one n3 hg' hg]))
  refine S.ifsF (T1.neDT (d := g) h1 (E1.var rfl) rfl rfl (led_kqd hg)) ?_
  clear h1
  refine S.seq (M := fun τ' => (d2 p0 p1 = d2 o0 o1 /\ d2 p0 p2 = d2 o0 o2 /\ d2 p1 p2 = d2 o1 o2) /\ ∃ o4 o5 : Sl, τ' = [.dat (.list [p0.d, p1.d, p2.d]), .dat (.list [o0.d, o1.d, o2.d]), .dat dd, .dat g, o4, o5, .un, .un, .un, .un]) ?_ fun τ' ⟨hZ, o4, o5, eτ⟩ => ?_
  . refine S.for (ds := [tI [0, 1], tI [0, 2], tI [1, 2]]) (Wk.lst (E1.frz (E1.li (A1.cons (E1.tu (A1.cons E1.int (A1.cons E1.int A1.nil)) rfl (lsz (n := 2) rfl z2)) (A1.cons (E1.tu (A1.cons E1.int (A1.cons E1.int A1.nil)) rfl (lsz (n := 2) rfl z2)) (A1.cons (E1.tu (A1.cons E1.int (A1.cons E1.int A1.nil)) rfl (lsz (n := 2) rfl z2)) A1.nil))) rfl (lsz (n := 3) rfl z3)))) (fun k τ' => tw (d2 p0 p1 = d2 o0 o1) (d2 p0 p2 = d2 o0 o2) (d2 p1 p2 = d2 o1 o2) k /\ ∃ o4 o5 : Sl, τ' = [.dat (.list [p0.d, p1.d, p2.d]), .dat (.list [o0.d, o1.d, o2.d]), .dat dd, .dat g, o4, o5, .un, .un, .un, .un]) ⟨trivial, _, _, rfl⟩ (fun k d9 τ1 hd ⟨hI, o4, o5, e1⟩ => ?_) (fun τ1 h => h)
    subst e1
    rcases get3 hd with ⟨rfl, rfl⟩ | ⟨rfl, rfl⟩ | ⟨rfl, rfl⟩
    . refine ⟨_, Gd.pair (x := .int 0) (y := .int 1), ?_⟩
      refine S.if1 (b := !decide (d2 p0 p1 = d2 o0 o1)) ((T1.test (E1.neD (d := tI (qf (d2 p0 p1))) (e := tI (qf (d2 o0 o1))) (E1.call (R := RSq2) (ds := [p0.d, p1.d]) (A1.cons (E1.ixL (ds := [p0.d, p1.d, p2.d]) (d := p0.d) (E1.varL rfl) (E1.var rfl) rfl) (A1.cons (E1.ixL (ds := [p0.d, p1.d, p2.d]) (d := p1.d) (E1.varL rfl) (E1.var rfl) rfl) A1.nil)) ⟨p0, p1, rfl, lp.1, lp.2.1, rfl⟩) (E1.call (R := RSq2) (ds := [o0.d, o1.d]) (A1.cons (E1.ixL (ds := [o0.d, o1.d, o2.d]) (d := o0.d) (E1.varL rfl) (E1.var rfl) rfl) (A1.cons (E1.ixL (ds := [o0.d, o1.d, o2.d]) (d := o1.d) (E1.varL rfl) (E1.var rfl) rfl) A1.nil)) ⟨o0, o1, rfl, lo.1, lo.2.1, rfl⟩) rfl rfl kqd_tup kqd_tup)).eqn (by rw [deq_qf])) (fun hh => ?_) (fun hh => ?_)
      . have hne : d2 p0 p1 ≠ d2 o0 o1 := ne_of_b hh
        have eg := ledT_a hg hne
        subst eg
        exact S.ret1 (s := .dat (.bool true)) (E1.to (E1.eqD (d := noD 0 1) (e := noD 0 1) (E1.var rfl) (E1.tu (A1.cons E1.str (A1.cons (E1.var rfl) (A1.cons (E1.var rfl) A1.nil))) rfl (lsz (n := 3) rfl z3)) rfl rfl kq_no kq_no) (by rw [deq_self])) ⟨rfl, rfl⟩
      . have hz : d2 p0 p1 = d2 o0 o1 := eq_of_b hh
        exact S.next ⟨hz, _, _, rfl⟩
    . refine ⟨_, Gd.pair (x := .int 0) (y := .int 2), ?_⟩
      refine S.if1 (b := !decide (d2 p0 p2 = d2 o0 o2)) ((T1.test (E1.neD (d := tI (qf (d2 p0 p2))) (e := tI (qf (d2 o0 o2))) (E1.call (R := RSq2) (ds := [p0.d, p2.d]) (A1.cons (E1.ixL (ds := [p0.d, p1.d, p2.d]) (d := p0.d) (E1.varL rfl) (E1.var rfl) rfl) (A1.cons (E1.ixL (ds := [p0.d, p1.d, p2.d]) (d := p2.d) (E1.varL rfl) (E1.var rfl) rfl) A1.nil)) ⟨p0, p2, rfl, lp.1, lp.2.2, rfl⟩) (E1.call (R := RSq2) (ds := [o0.d, o2.d]) (A1.cons (E1.ixL (ds := [o0.d, o1.d, o2.d]) (d := o0.d) (E1.varL rfl) (E1.var rfl) rfl) (A1.cons (E1.ixL (ds := [o0.d, o1.d, o2.d]) (d := o2.d) (E1.varL rfl) (E1.var rfl) rfl) A1.nil)) ⟨o0, o2, rfl, lo.1, lo.2.2, rfl⟩) rfl rfl kqd_tup kqd_tup)).eqn (by rw [deq_qf])) (fun hh => ?_) (fun hh => ?_)
      . have hne : d2 p0 p2 ≠ d2 o0 o2 := ne_of_b hh
        have eg := ledT_b hg hI hne
        subst eg
        exact S.ret1 (s := .dat (.bool true)) (E1.to (E1.eqD (d := noD 0 2) (e := noD 0 2) (E1.var rfl) (E1.tu (A1.cons E1.str (A1.cons (E1.var rfl) (A1.cons (E1.var rfl) A1.nil))) rfl (lsz (n := 3) rfl z3)) rfl rfl kq_no kq_no) (by rw [deq_self])) ⟨rfl, rfl⟩
      . have hz : d2 p0 p2 = d2 o0 o2 := eq_of_b hh
        exact S.next ⟨⟨hI, hz⟩, _, _, rfl⟩
    . refine ⟨_, Gd.pair (x := .int 1) (y := .int 2), ?_⟩
      refine S.if1 (b := !decide (d2 p1 p2 = d2 o1 o2)) ((T1.test (E1.neD (d := tI (qf (d2 p1 p2))) (e := tI (qf (d2 o1 o2))) (E1.call (R := RSq2) (ds := [p1.d, p2.d]) (A1.cons (E1.ixL (ds := [p0.d, p1.d, p2.d]) (d := p1.d) (E1.varL rfl) (E1.var rfl) rfl) (A1.cons (E1.ixL (ds := [p0.d, p1.d, p2.d]) (d := p2.d) (E1.varL rfl) (E1.var rfl) rfl) A1.nil)) ⟨p1, p2, rfl, lp.2.1, lp.2.2, rfl⟩) (E1.call (R := RSq2) (ds := [o1.d, o2.d]) (A1.cons (E1.ixL (ds := [o0.d, o1.d, o2.d]) (d := o1.d) (E1.varL rfl) (E1.var rfl) rfl) (A1.cons (E1.ixL (ds := [o0.d, o1.d, o2.d]) (d := o2.d) (E1.varL rfl) (E1.var rfl) rfl) A1.nil)) ⟨o1, o2, rfl, lo.2.1, lo.2.2, rfl⟩) rfl rfl kqd_tup kqd_tup)).eqn (by rw [deq_qf])) (fun hh => ?_) (fun hh => ?_)
      . have hne : d2 p1 p2 ≠ d2 o1 o2 := ne_of_b hh
        have eg := ledT_c hg hI.1 hI.2 hne
        subst eg
        exact S.ret1 (s := .dat (.bool true)) (E1.to (E1.eqD (d := noD 1 2) (e := noD 1 2) (E1.var rfl) (E1.tu (A1.cons E1.str (A1.cons (E1.var rfl) (A1.cons (E1.var rfl) A1.nil))) rfl (lsz (n := 3) rfl z3)) rfl rfl kq_no kq_no) (by rw [deq_self])) ⟨rfl, rfl⟩
      . have hz : d2 p1 p2 = d2 o1 o2 := eq_of_b hh
        exact S.next ⟨⟨hI.1, hI.2, hz⟩, _, _, rfl⟩
  subst eτ
  obtain ⟨z1_, z2_, z3_⟩ := hZ
  have hO := ledT_o hg z1_ z2_ z3_
  obtain ⟨w, x, y, z, u, v, t, rfl, ho⟩ := hO
  obtain ⟨hl0, hl1, hl2⟩ := ho.led
  refine S.ifsF (T1.orF (T1.notT (T1.val (E1.isiT (E1.var rfl)))) (T1.orF (T1.neT (E1.lenT (A1.cons (E1.var rfl) A1.nil)) E1.int rfl) ((T1.test (E1.neS (x := "only") (y := "only") (E1.ixT (E1.var rfl) E1.int rfl) E1.str)).eqn (c := false) (by decide)))) ?_
  refine S.letG (d := .tuple [tI [w, x, y, z], ptQ u v t]) (E1.ixT (E1.var rfl) E1.int rfl) (Gd.pair (x := tI [w, x, y, z]) (y := ptQ u v t)) ?_
  have sm : Sm [w, x, y, z] := sm_bd' ho.b
  have tdue : T1 none K (tAnd (tTest (tOp (fun x y H Q => y = .non /\ Q (.bl (!decide (x = .non))) H) (tVar 2) (tC .non))) (tTest (tOp (rEqD K true) (tOp (rIxT K) (tVar 3) (tC (.int 1))) (tVar 2)))) [.dat (.list [p0.d, p1.d, p2.d]), .dat (.list [o0.d, o1.d, o2.d]), .dat dd, .dat (onD w x y z u v t), o4, o5, .dat (tI [w, x, y, z]), .dat (ptQ u v t), .un, .un] false := by
    rcases hdd with rfl | ⟨w', x', y', z', u', v', t', rfl, hk⟩
    . exact T1.andF ((T1.test (E1.notNo (E1.var rfl) E1.non)).eqn rfl)
    . obtain ⟨e, e1, e2, e3⟩ := only_one n3 hk ho
      rw [e, e1, e2, e3]
      exact (T1.and1 (b := true) (c := false) ((T1.test (E1.notNo (E1.var rfl) E1.non)).eqn rfl) (T1.neDT (d := .tuple [tI [w, x, y, z], ptQ u v t]) (E1.ixT (E1.var rfl) E1.int rfl) (E1.var rfl) rfl rfl kq_mo))
  refine S.ifsF (T1.orF (T1.neDT (d := tI [w, x, y, z]) (E1.var rfl) (E1.to (E1.cT (ns := [w, x, y, z]) (A1.cons (E1.var rfl) A1.nil) (show 4 <= 1000 by decide) ⟨ho.nz, sm⟩) (by rw [ho.p])) rfl rfl kqd_tup) (T1.orF (T1.notT (T1.val (E1.call (R := RIsPoint) (ds := [ptQ u v t, ptQ u v t]) (A1.cons (E1.var rfl) (A1.cons (E1.var rfl) A1.nil)) ⟨u, v, t, rfl, rfl⟩))) tdue)) ?_
  obtain ⟨B, B0, bB, fp⟩ := tp
  obtain ⟨B1, B10, bB1, fo⟩ := to
  have pp0 := fp.1.pb B0 bB
  have pp1 := fp.2.1.pb B0 bB
  have pp2 := fp.2.2.pb B0 bB
  have po0 := fo.1.pb B10 bB1
  have ps : PB 2500 u v t := by
    have h := po0.add (pp0.turned ho.nz ho.b).neg
    rw [ho.su, ho.sv, ho.st]
    exact h.up (by decide)
  refine S.seq (M := fun τ' => ∃ o8 o9 : Sl, τ' = [.dat (.list [p0.d, p1.d, p2.d]), .dat (.list [o0.d, o1.d, o2.d]), .dat dd, .dat (onD w x y z u v t), o4, o5, .dat (tI [w, x, y, z]), .dat (ptQ u v t), o8, o9]) ?_ fun τ' ⟨o8, o9, eτ⟩ => ?_
  . refine S.for (ds := zipD [p0.d, p1.d, p2.d] [o0.d, o1.d, o2.d]) (Wk.zipLL (A1.cons (E1.var rfl) (A1.cons (E1.var rfl) A1.nil)) rfl) (fun _ τ' => ∃ o8 o9 : Sl, τ' = [.dat (.list [p0.d, p1.d, p2.d]), .dat (.list [o0.d, o1.d, o2.d]), .dat dd, .dat (onD w x y z u v t), o4, o5, .dat (tI [w, x, y, z]), .dat (ptQ u v t), o8, o9]) ⟨_, _, rfl⟩ (fun k d9 τ1 hd ⟨o8, o9, e1⟩ => ?_) (fun τ1 h => h)
    subst e1
    rcases get3 hd with ⟨rfl, rfl⟩ | ⟨rfl, rfl⟩ | ⟨rfl, rfl⟩
    . refine ⟨_, Gd.pair (x := p0.d) (y := o0.d), ?_⟩
      refine S.ifF (T1.neDT (d := o0.d) (E1.to (s' := .dat o0.d) (E1.call (R := RAdded) (ds := [(qrow w x y z p0).d, ptQ u v t]) (A1.cons (E1.cLTurned (c := 129) (m := 1000) (A1.cons (E1.var rfl) (A1.cons (E1.var rfl) A1.nil)) ho.nz ho.b pp0) (A1.cons (E1.var rfl) A1.nil)) ⟨2500, Q1 w x y z p0.x p0.y p0.z, Q2 w x y z p0.x p0.y p0.z, Q3 w x y z p0.x p0.y p0.z, u, v, t, rfl, (pp0.turned ho.nz ho.b).up (by decide), ps, by decide, rfl⟩) (congrArg (fun r : D.Row3 => Sl.dat r.d) hl0)) (E1.var rfl) rfl rfl kq_ptQ9) (S.next ⟨_, _, rfl⟩)
    . refine ⟨_, Gd.pair (x := p1.d) (y := o1.d), ?_⟩
      refine S.ifF (T1.neDT (d := o1.d) (E1.to (s' := .dat o1.d) (E1.call (R := RAdded) (ds := [(qrow w x y z p1).d, ptQ u v t]) (A1.cons (E1.cLTurned (c := 129) (m := 1000) (A1.cons (E1.var rfl) (A1.cons (E1.var rfl) A1.nil)) ho.nz ho.b pp1) (A1.cons (E1.var rfl) A1.nil)) ⟨2500, Q1 w x y z p1.x p1.y p1.z, Q2 w x y z p1.x p1.y p1.z, Q3 w x y z p1.x p1.y p1.z, u, v, t, rfl, (pp1.turned ho.nz ho.b).up (by decide), ps, by decide, rfl⟩) (congrArg (fun r : D.Row3 => Sl.dat r.d) hl1)) (E1.var rfl) rfl rfl kq_ptQ9) (S.next ⟨_, _, rfl⟩)
    . refine ⟨_, Gd.pair (x := p2.d) (y := o2.d), ?_⟩
      refine S.ifF (T1.neDT (d := o2.d) (E1.to (s' := .dat o2.d) (E1.call (R := RAdded) (ds := [(qrow w x y z p2).d, ptQ u v t]) (A1.cons (E1.cLTurned (c := 129) (m := 1000) (A1.cons (E1.var rfl) (A1.cons (E1.var rfl) A1.nil)) ho.nz ho.b pp2) (A1.cons (E1.var rfl) A1.nil)) ⟨2500, Q1 w x y z p2.x p2.y p2.z, Q2 w x y z p2.x p2.y p2.z, Q3 w x y z p2.x p2.y p2.z, u, v, t, rfl, (pp2.turned ho.nz ho.b).up (by decide), ps, by decide, rfl⟩) (congrArg (fun r : D.Row3 => Sl.dat r.d) hl2)) (E1.var rfl) rfl rfl kq_ptQ9) (S.next ⟨_, _, rfl⟩)
  subst eτ
  exact S.ret1 (s := .dat (.bool true)) E1.bl ⟨rfl, rfl⟩
theorem scLaw : FnScope ["_law_script", "_law_purse_here", "_law_k", "_law_points", "_law_four", "_law_shift", "_law_others", "_law_due"] ["_law_script"] (defScope sLaw) := ⟨rfl, rfl, rfl, by decide +kernel, rfl, by decide +kernel, by decide +kernel⟩
theorem ok_law (F : Fun K "law" "law" sLaw f fd)
    (G : FnOk P w K mg base CX0 2 g gd ["_law_script"] (spPurse K)) (bG : Binds K gd ["_law_script"] []) (kG : PySem.W.keepIn K (.ref g) = true) (mG : mg "_law_purse" = some (.ref g))
    (G2 : FnOk P w K mg base CX0 3 g2 gd2 ["_law_purse_here"] (spU K RNb3)) (bG2 : Binds K gd2 ["_law_purse_here"] []) (kG2 : PySem.W.keepIn K (.ref g2) = true) (mG2 : mg "_law_near" = some (.ref g2))
    (G3 : FnOk P w K mg base CX0 3 g3 gd3 ["_law_points"] (spP K ROnL)) (bG3 : Binds K gd3 ["_law_points"] []) (kG3 : PySem.W.keepIn K (.ref g3) = true) (mG3 : mg "_law_on_line" = some (.ref g3))
    (G4 : FnOk P w K mg base CX0 1 g4 gd4 ["_law_purse_here", "_law_out_of"] spDraw) (bG4 : Binds K gd4 ["_law_purse_here", "_law_out_of"] []) (kG4 : PySem.W.keepIn K (.ref g4) = true) (mG4 : mg "_law_draw" = some (.ref g4))
    (G5 : FnOk P w K mg base CX0 3 g5 gd5 ["_law_one", "_law_other"] (spP K RAdded)) (bG5 : Binds K gd5 ["_law_one", "_law_other"] []) (kG5 : PySem.W.keepIn K (.ref g5) = true) (mG5 : mg "_law_added" = some (.ref g5))
    (G6 : FnOk P w K mg base CX0 3 g6 gd6 ["_law_four", "_law_point"] (spTurned K)) (bG6 : Binds K gd6 ["_law_four", "_law_point"] []) (kG6 : PySem.W.keepIn K (.ref g6) = true) (mG6 : mg "_law_turned" = some (.ref g6))
    (G7 : FnOk P w K mg base CX0 2 g7 gd7 ["_law_four"] (spT K (fun ns => (∃ n ∈ ns, n ≠ 0) /\ Sm ns) pl)) (bG7 : Binds K gd7 ["_law_four"] []) (kG7 : PySem.W.keepIn K (.ref g7) = true) (mG7 : mg "_law_plain" = some (.ref g7))
    (G8 : FnOk P w K mg base CX0 4 g8 gd8 ["_law_purse_here", "_law_others"] (spU K RBn3)) (bG8 : Binds K gd8 ["_law_purse_here", "_law_others"] []) (kG8 : PySem.W.keepIn K (.ref g8) = true) (mG8 : mg "_law_bent" = some (.ref g8))
    (G9 : FnOk P w K mg base CX0 7 g9 gd9 ["_law_points", "_law_others", "_law_due"] (spP K RRt3)) (bG9 : Binds K gd9 ["_law_points", "_law_others", "_law_due"] []) (kG9 : PySem.W.keepIn K (.ref g9) = true) (mG9 : mg "_law_right" = some (.ref g9)) (m_range : mg "range" = none) (m_tuple : mg "tuple" = none) :
    FnOk P w K mg base CX0 8 f fd ["_law_script"] (spLaw K) := by
  refine okL F scLaw rfl (fun cdv A0 outer s0 H0 E0 hr => ?_)
  have r := hr.mono (show 2 <= 7 by decide)
  have r2 := hr.mono (show 3 <= 7 by decide)
  have r3 := hr.mono (show 3 <= 7 by decide)
  have r4 := hr.mono (show 1 <= 7 by decide)
  have r5 := hr.mono (show 3 <= 7 by decide)
  have r6 := hr.mono (show 3 <= 7 by decide)
  have r7 := hr.mono (show 2 <= 7 by decide)
  have r8 := hr.mono (show 4 <= 7 by decide)
  have r9 := hr.mono (show 7 <= 7 by decide)
  refine ⟨_, (zss_cons (zs_set (i := 1) scLaw.nd rfl (Or.inr rfl) (ze_call G r rfl mG kG bG .nil pass0 (za_n (zv 0) za_nil)))
    (zss_cons (zs_for PassesOwn.never rfl (zi_range1 rfl m_range (za_i za_nil)) (zg_name (i := 2) scLaw.nd rfl (Or.inl rfl)) (zss_cons (zs_comp (i := 3) (own := ["_law_j"]) scLaw rfl ⟨by decide +kernel, rfl, by decide +kernel, by decide +kernel, by decide +kernel, by decide +kernel, by decide +kernel, by decide +kernel, by decide +kernel⟩ (zi_range1 rfl m_range (za_i za_nil)) (fun C fp s H nd => zg_name (i := 0) nd rfl (Or.inl rfl)) (fun C fp s H => zts_nil) (fun C fp s H => (ze_call G2 r2 rfl mG2 kG2 bG2 .nil pass0 (za_n (zv 2) za_nil))) scLaw.nd rfl (Or.inl rfl) rfl)
    (zss_cons (zs_if (zt_val (ze_call G3 r3 rfl mG3 kG3 bG3 .nil pass0 (za_n (zv 3) za_nil))) (zss_one (zs_set (i := 3) scLaw.nd rfl (Or.inl rfl) (ze_lst (za_t (ze_tup (za_t (ze_tup (za_i (za_i za_nil))) (za_t (ze_tup (za_i (za_i za_nil))) (za_t (ze_tup (za_i (za_i za_nil))) za_nil)))) (za_t (ze_tup (za_t (ze_tup (za_i (za_i za_nil))) (za_t (ze_tup (za_i (za_i za_nil))) (za_t (ze_tup (za_i (za_i za_nil))) za_nil)))) (za_t (ze_tup (za_t (ze_tup (za_i (za_i za_nil))) (za_t (ze_tup (za_i (za_i za_nil))) (za_t (ze_tup (za_i (za_i za_nil))) za_nil)))) za_nil)))))) zss_nil)
    (zss_cons (zs_set (i := 4) scLaw.nd rfl (Or.inr rfl) (ze_callTy call_tuple_of rfl m_tuple (by rfl) (za_cons (ze_comp (own := ["_law_j"]) scLaw rfl ⟨by decide +kernel, rfl, by decide +kernel, by decide +kernel, by decide +kernel, by decide +kernel, by decide +kernel, by decide +kernel, by decide +kernel⟩ (zi_range1 rfl m_range (za_i za_nil)) (fun C fp s H nd => zg_name (i := 0) nd rfl (Or.inl rfl)) (fun C fp s H => zts_nil) (fun C fp s H => (ze_op op_sub (ze_call G4 r4 rfl mG4 kG4 bG4 .nil pass0 (za_n (zv 2) (za_i za_nil))) ze_int))) za_nil)))
    (zss_cons (zs_if (zt_cmpR (op_eqD hr.units) (zv 4) (ze_tup (za_i (za_i (za_i (za_i za_nil))))) (nomark _)) (zss_one (zs_set (i := 4) scLaw.nd rfl (Or.inr rfl) (ze_tup (za_i (za_i (za_i (za_i za_nil))))))) zss_nil)
    (zss_cons (zs_set (i := 5) scLaw.nd rfl (Or.inr rfl) (ze_call G2 r2 rfl mG2 kG2 bG2 .nil pass0 (za_n (zv 1) za_nil)))
    (zss_cons (zs_comp (i := 6) (own := ["_law_point"]) scLaw rfl ⟨by decide +kernel, rfl, by decide +kernel, by decide +kernel, by decide +kernel, by decide +kernel, by decide +kernel, by decide +kernel, by decide +kernel⟩ (zi_list (zv 3)) (fun C fp s H nd => zg_name (i := 0) nd rfl (Or.inl rfl)) (fun C fp s H => zts_nil) (fun C fp s H => (ze_call G5 r5 rfl mG5 kG5 bG5 .nil pass0 (za_c (ze_call G6 r6 rfl mG6 kG6 bG6 .nil pass0 (za_n (zv 5) (za_n (zv 0) za_nil))) (za_n (zv 6) za_nil)))) scLaw.nd rfl (Or.inl rfl) rfl)
    (zss_cons (zs_set (i := 7) scLaw.nd rfl (Or.inl rfl) (ze_tup (za_c (ze_call G7 r7 rfl mG7 kG7 bG7 .nil pass0 (za_n (zv 4) za_nil)) (za_n (zv 5) za_nil))))
    (zss_cons (zs_if (zt_cmpR op_eq (ze_call G4 r4 rfl mG4 kG4 bG4 .nil pass0 (za_n (zv 1) (za_i za_nil))) ze_int (nomark _)) (zss_cons (zs_set (i := 6) scLaw.nd rfl (Or.inl rfl) (ze_call G8 r8 rfl mG8 kG8 bG8 .nil pass0 (za_n (zv 1) (za_n (zv 6) za_nil))))
    (zss_one (zs_set (i := 7) scLaw.nd rfl (Or.inl rfl) ze_non))) zss_nil)
    (zss_one (zs_if (zt_not (zt_val (ze_call G9 r9 rfl mG9 kG9 bG9 .nil pass0 (za_n (zv 3) (za_n (zv 6) (za_n (zv 7) za_nil)))))) (zss_one (zs_ret ze_bl)) zss_nil)))))))))))
    (zss_one (zs_ret ze_bl)))), fun sc hl hb => ?_⟩
  refine S.purse1 (ns := sc) (A1.cons (E1.var rfl) A1.nil) hl hb (fun q => ?_) (fun s h => ⟨_, h⟩)
  refine S.seq (M := fun τ' => ∃ o1 o2 o3 o4 o5 o6 : Sl, τ' = [.dat (.list (sc.map .int)), .pu, o1, o2, o3, o4, o5, o6]) ?_ fun τ' ⟨o1, o2, o3, o4, o5, o6, eτ⟩ => ?_
  . refine S.for (Wk.rng (n := 3) (A1.cons E1.int A1.nil) rfl) (fun _ τ' => ∃ o1 o2 o3 o4 o5 o6 : Sl, τ' = [.dat (.list (sc.map .int)), .pu, o1, o2, o3, o4, o5, o6]) ⟨_, _, _, _, _, _, rfl⟩ (fun i dk τ1 hd ⟨o1, o2, o3, o4, o5, o6, e1⟩ => ?_) (fun τ1 h => h)
    subst e1
    refine ⟨_, Gd.name, ?_⟩
    refine S.letC (E.frzC (E.compC (Cd := fun _ e => ∃ x y z : Rat, e = ptQ x y z /\ Nb x /\ Nb y /\ Nb z) (Wk.r3 (A1.cons E1.int A1.nil)) (fun d hd => E.callU (R := RNb3) (ds := []) (A1.cons (E1.varP rfl) A1.nil) ⟨rfl, rfl⟩) (lsz (n := 3) rfl z3))) (fun s ⟨_, e, _⟩ => by rw [e]; rfl) fun s ⟨g, es, ts, eg, l3, he⟩ => ?_
    subst es eg
    have hp : ∃ p0 p1 p2 : D.Row3, ts = [p0.d, p1.d, p2.d] /\ Nr3 p0 p1 p2 := by
      obtain ⟨t1, t2, t3, rfl⟩ := three_of l3
      obtain ⟨_, _, x0, y0, z0, rfl, h0⟩ := he 0 t1 rfl
      obtain ⟨_, _, x1, y1, z1, rfl, h1⟩ := he 1 t2 rfl
      obtain ⟨_, _, x2, y2, z2, rfl, h2⟩ := he 2 t3 rfl
      exact ⟨⟨x0, y0, z0⟩, ⟨x1, y1, z1⟩, ⟨x2, y2, z2⟩, rfl, nr3_of h0 h1 h2⟩
    clear he l3
    obtain ⟨p0, p1, p2, rfl, hn⟩ := hp
    refine S.seq (M := fun τ' => ∃ p0 p1 p2 : D.Row3, Nr3 p0 p1 p2 /\ (p1.sub p0).cx (p2.sub p0) ≠ r0 /\ τ' = [.dat (.list (sc.map .int)), .pu, .dat dk, .dat (.list [p0.d, p1.d, p2.d]), o3, o4, o5, o6]) ?_ fun τ' ⟨p0, p1, p2, hn, n3, eτ⟩ => ?_
    . have hv : ∃ v : Bool, (v = true ↔ (p1.sub p0).cx (p2.sub p0) = r0) := by
        by_cases h : (p1.sub p0).cx (p2.sub p0) = r0
        . exact ⟨true, fun _ => h, fun _ => rfl⟩
        . exact ⟨false, (fun z => by cases z), fun z => absurd z h⟩
      obtain ⟨v, hv⟩ := hv
      refine S.if1 (b := v) (T1.val (E1.call (R := ROnL) (ds := [.list [p0.d, p1.d, p2.d]]) (A1.cons (E1.var rfl) A1.nil) ⟨p0, p1, p2, v, rfl, hn.lh, hv, rfl⟩)) (fun _ => ?_) (fun h => S.next ⟨p0, p1, p2, hn, (fun z => by rw [hv.mpr z] at h; cases h), rfl⟩)
      exact S.asg1 (s := .dat (.list [D.Row3.d ⟨0, 0, 0⟩, D.Row3.d ⟨1, 0, 0⟩, D.Row3.d ⟨0, 2, 1 / 2⟩])) (E1.to (E1.frz (E1.li (A1.cons (E1.tu (A1.cons (E1.tu (ds := [.int 0, .int 1]) (A1.cons E1.int (A1.cons E1.int A1.nil)) rfl (lsz (n := 2) rfl z2)) (A1.cons (E1.tu (ds := [.int 0, .int 1]) (A1.cons E1.int (A1.cons E1.int A1.nil)) rfl (lsz (n := 2) rfl z2)) (A1.cons (E1.tu (ds := [.int 0, .int 1]) (A1.cons E1.int (A1.cons E1.int A1.nil)) rfl (lsz (n := 2) rfl z2)) A1.nil))) rfl (lsz (n := 3) rfl z3)) (A1.cons (E1.tu (A1.cons (E1.tu (ds := [.int 1, .int 1]) (A1.cons E1.int (A1.cons E1.int A1.nil)) rfl (lsz (n := 2) rfl z2)) (A1.cons (E1.tu (ds := [.int 0, .int 1]) (A1.cons E1.int (A1.cons E1.int A1.nil)) rfl (lsz (n := 2) rfl z2)) (A1.cons (E1.tu (ds := [.int 0, .int 1]) (A1.cons E1.int (A1.cons E1.int A1.nil)) rfl (lsz (n := 2) rfl z2)) A1.nil))) rfl (lsz (n := 3) rfl z3)) (A1.cons (E1.tu (A1.cons (E1.tu (ds := [.int 0, .int 1]) (A1.cons E1.int (A1.cons E1.int A1.nil)) rfl (lsz (n := 2) rfl z2)) (A1.cons (E1.tu (ds := [.int 2, .int 1]) (A1.cons E1.int (A1.cons E1.int A1.nil)) rfl (lsz (n := 2) rfl z2)) (A1.cons (E1.tu (ds := [.int 1, .int 2]) (A1.cons E1.int (A1.cons E1.int A1.nil)) rfl (lsz (n := 2) rfl z2)) A1.nil))) rfl (lsz (n := 3) rfl z3)) A1.nil))) rfl (lsz (n := 3) rfl z3))) (by
                                                                                                  have e : qf (1 / 2 : Rat) = [1, 2] := by decide +kernel
                                                                                                  show _ = Sl.dat (.list [D.Row3.d ⟨0, 0, 0⟩, D.Row3.d ⟨1, 0, 0⟩, .tuple [tI (qf 0), tI (qf 2), tI (qf (1 / 2))]])
                                                                                                  rw [e]
                                                                                                  rfl)) ⟨_, _, _, nr_const.1, nr_const.2, rfl⟩
    subst eτ
    refine S.letC (EL.row (EL.comp (n := 4) (P := fun k => k.natAbs <= 16) (Wk.rng (n := 4) (A1.cons E1.int A1.nil) rfl) rangeD_len (fun d _ => EI.mono (EI.op (EI.draw (A1.cons (E1.varP rfl) (A1.cons E1.int A1.nil)) (by decide : (0 : Int) < 25) (by decide)) EI.lit) fun k ⟨i, j, hi, hj, ek⟩ => by omega) z4)) (fun s ⟨_, e, _⟩ => by rw [e]; rfl) fun s ⟨F, es, lF, hF⟩ => ?_
    subst es
    have bF : Bd (2 ^ 4) F := hF
    refine S.seq (M := fun τ' => ∃ w x y z : Int, (∃ n ∈ [w, x, y, z], n ≠ 0) /\ Bd (2 ^ 4) [w, x, y, z] /\ τ' = [.dat (.list (sc.map .int)), .pu, .dat dk, .dat (.list [p0.d, p1.d, p2.d]), .dat (tI [w, x, y, z]), o4, o5, o6]) ?_ fun τ' ⟨w, x, y, z, nz, bd, eτ⟩ => ?_
    . obtain ⟨w, x, y, z, rfl⟩ := four_of lF
      refine S.if1 (b := decide ([w, x, y, z] = [0, 0, 0, 0])) (T1.test (E1.to (E1.eqD (d := tI [w, x, y, z]) (e := tI [0, 0, 0, 0]) (E1.var rfl) (by (repeat' (first | exact E1.var rfl | exact E1.int | exact A1.nil | apply A1.cons | apply E1.sub | apply E1.pow | apply E1.ixT | apply E1.tu | apply E1.li | rfl | exact lsz (n := 2) rfl z2 | exact lsz (n := 3) rfl z3 | exact lsz (n := 4) rfl z4 | exact cpow10 (by decide) (by decide)))) rfl rfl kqd_tup kqd_tup) (by rw [deq_tI]))) (fun _ => ?_) (fun h => S.next ⟨w, x, y, z, nz_of_ne4 rfl (of_decide_eq_false h), bF, rfl⟩)
      exact S.asg1 (s := .dat (tI [0, 0, 3, 0])) (by (repeat' (first | exact E1.var rfl | exact E1.int | exact A1.nil | apply A1.cons | apply E1.sub | apply E1.pow | apply E1.ixT | apply E1.tu | apply E1.li | rfl | exact lsz (n := 2) rfl z2 | exact lsz (n := 3) rfl z3 | exact lsz (n := 4) rfl z4 | exact cpow10 (by decide) (by decide)))) ⟨0, 0, 3, 0, ⟨3, by simp, by decide⟩, by unfold Bd; decide, rfl⟩
    subst eτ
    clear hF bF lF
    refine S.letC (E.callU (R := RNb3) (ds := []) (A1.cons (E1.varP rfl) A1.nil) ⟨rfl, rfl⟩) (fun s ⟨_, e, _⟩ => by rw [e]; rfl) fun s ⟨g, es, s0, s1, s2, eg, k0, k1, k2⟩ => ?_
    subst es eg
    have hs9 : ∃ s : D.Row3, RP Nb s /\ s0 = s.x /\ s1 = s.y /\ s2 = s.z := ⟨⟨s0, s1, s2⟩, ⟨k0, k1, k2⟩, rfl, rfl, rfl⟩
    obtain ⟨s, ks, rfl, rfl, rfl⟩ := hs9
    clear k0 k1 k2
    have ps := pb_nb ks.1 ks.2.1 ks.2.2
    have tp := hn.tb
    have pp := tp
    obtain ⟨B, B0, bB, fp⟩ := pp
    have pp0 := fp.1.pb B0 bB
    have pp1 := fp.2.1.pb B0 bB
    have pp2 := fp.2.2.pb B0 bB
    clear fp bB B0 B
    have hO := ot3_of nz bd hn ks
    refine S.let1 (s := .dat (.list [D.Row3.d ((qrow w x y z p0).add s), D.Row3.d ((qrow w x y z p1).add s), D.Row3.d ((qrow w x y z p2).add s)])) (E1.frz (E1.comp3 (d1 := p0.d) (d2 := p1.d) (d3 := p2.d) (e1 := D.Row3.d ((qrow w x y z p0).add s)) (e2 := D.Row3.d ((qrow w x y z p1).add s)) (e3 := D.Row3.d ((qrow w x y z p2).add s)) (Wk.lst (E1.var rfl)) (E1.call (R := RAdded) (ds := [(qrow w x y z p0).d, ptQ s.x s.y s.z]) (A1.cons (E1.cLTurned (c := 129) (m := 4) (A1.cons (E1.var rfl) (A1.cons (E1.var rfl) A1.nil)) nz bd pp0) (A1.cons (E1.var rfl) A1.nil)) ⟨2500, Q1 w x y z p0.x p0.y p0.z, Q2 w x y z p0.x p0.y p0.z, Q3 w x y z p0.x p0.y p0.z, s.x, s.y, s.z, rfl, (pp0.turned nz bd).up (by decide), ps.up (by decide), by decide, rfl⟩) (E1.call (R := RAdded) (ds := [(qrow w x y z p1).d, ptQ s.x s.y s.z]) (A1.cons (E1.cLTurned (c := 129) (m := 4) (A1.cons (E1.var rfl) (A1.cons (E1.var rfl) A1.nil)) nz bd pp1) (A1.cons (E1.var rfl) A1.nil)) ⟨2500, Q1 w x y z p1.x p1.y p1.z, Q2 w x y z p1.x p1.y p1.z, Q3 w x y z p1.x p1.y p1.z, s.x, s.y, s.z, rfl, (pp1.turned nz bd).up (by decide), ps.up (by decide), by decide, rfl⟩) (E1.call (R := RAdded) (ds := [(qrow w x y z p2).d, ptQ s.x s.y s.z]) (A1.cons (E1.cLTurned (c := 129) (m := 4) (A1.cons (E1.var rfl) (A1.cons (E1.var rfl) A1.nil)) nz bd pp2) (A1.cons (E1.var rfl) A1.nil)) ⟨2500, Q1 w x y z p2.x p2.y p2.z, Q2 w x y z p2.x p2.y p2.z, Q3 w x y z p2.x p2.y p2.z, s.x, s.y, s.z, rfl, (pp2.turned nz bd).up (by decide), ps.up (by decide), by decide, rfl⟩))) ?_
    obtain ⟨j0, j1, j2, j3, hj⟩ := four_of (show (pl [w, x, y, z]).length = 4 by rw [pl_length]; rfl)
    refine S.let1 (s := .dat (.tuple [tI [j0, j1, j2, j3], ptQ s.x s.y s.z])) (E1.tu (ds := [tI [j0, j1, j2, j3], ptQ s.x s.y s.z]) (A1.cons (E1.to (E1.cT (ns := [w, x, y, z]) (A1.cons (E1.var rfl) A1.nil) (by show 4 <= 1000; decide) ⟨nz, sm_bd' bd⟩) (by rw [hj])) (A1.cons (E1.var rfl) A1.nil)) rfl (lsz (n := 2) rfl z2)) ?_
    have hon := only_moved (p0 := p0) (p1 := p1) (p2 := p2) (s := s) nz bd hj
    generalize ((qrow w x y z p0).add s) = a0 at hO hon ⊢
    generalize ((qrow w x y z p1).add s) = a1 at hO hon ⊢
    generalize ((qrow w x y z p2).add s) = a2 at hO hon ⊢
    refine S.seq (M := fun τ' => ∃ (a0 a1 a2 : D.Row3) (dd : Dat), TB 193 a0 a1 a2 /\ (dd = .none \/ ∃ (w x y z : Int) (u v t : Rat), dd = .tuple [tI [w, x, y, z], ptQ u v t] /\ Only p0 p1 p2 a0 a1 a2 w x y z u v t) /\ τ' = [.dat (.list (sc.map .int)), .pu, .dat dk, .dat (.list [p0.d, p1.d, p2.d]), .dat (tI [w, x, y, z]), .dat (ptQ s.x s.y s.z), .dat (.list [a0.d, a1.d, a2.d]), .dat dd]) ?_ fun τ' ⟨a0, a1, a2, dd, to, hdd, eτ⟩ => ?_
    . refine S.iff (T.eqI (EI.draw (A1.cons (E1.varP rfl) (A1.cons E1.int A1.nil)) (by decide : (0 : Int) < 2) (by decide)) EI.lit) (fun _ => ?_) (fun _ => S.next ⟨a0, a1, a2, _, hO.tb, .inr ⟨_, _, _, _, _, _, _, rfl, hon⟩, rfl⟩)
      refine S.letC (E.callU (R := RBn3) (ds := [.list [a0.d, a1.d, a2.d]]) (A1.cons (E1.varP rfl) (A1.cons (E1.var rfl) A1.nil)) ⟨a0, a1, a2, rfl, rfl⟩) (fun s ⟨_, e, _⟩ => by rw [e]; rfl) fun s ⟨g, es, b0, b1, b2, q9, eg, hP, hq⟩ => ?_
      subst es eg
      exact S.asg1 (s := .dat .none) E1.non ⟨b0, b1, b2, _, bn_tb hO hP hq, .inl rfl, rfl⟩
    subst eτ
    exact S.ifF (T1.notT (T1.val (E1.call (R := RRt3) (ds := [.list [p0.d, p1.d, p2.d], .list [a0.d, a1.d, a2.d], dd]) (A1.cons (E1.var rfl) (A1.cons (E1.var rfl) (A1.cons (E1.var rfl) A1.nil))) ⟨p0, p1, p2, a0, a1, a2, dd, rfl, tp, to, n3, hdd, rfl⟩))) (S.next ⟨_, _, _, _, _, _, rfl⟩)
  subst eτ
  exact S.ret1 E1.bl rfl
theorem scSop : FnScope ["one", "other"] ["one", "other"] (defScope sSop) := ⟨rfl, rfl, rfl, by decide +kernel, rfl, by decide +kernel, by decide +kernel⟩
theorem ok_sop (F : Fun K "sum_of_products" "sum_of_products" sSop f fd) (ms : mg "sum" = none) (mz : mg "zip" = none) : FnOk P w K mg base CX0 1 f fd ["one", "other"] (spSop K) := by
  refine F.okZ scSop (fun vs H Q E h => ?_) (fun cdv A outer s H vs Q E hr h => ?_)
  . obtain ⟨a, b, ns, ms, rfl, _⟩ := h; rfl
  obtain ⟨a, b, ns, ms, rfl, hS, hT, hl, hl2, s1, s2, q⟩ := h
  refine ⟨_, zss_one (zs_ret (ze_callB (call_sumL rfl) rfl ‹_› (by rfl) (za_cons (ze_comp (own := ["left", "right"]) scSop rfl ⟨by decide +kernel, rfl, by decide +kernel, by decide +kernel, by decide +kernel, by decide +kernel, by decide +kernel, by decide +kernel, by decide +kernel⟩
      (zi_zip rfl mz (za_cons (zv 0) (za_cons (zv 1) za_nil)))
      (fun C fp s H nd => zg_pair rfl nd rfl rfl rfl rfl) (fun C fp s H => zts_nil) (fun C fp s H => ze_op op_mulB (zv 0) (zv 1))) za_nil))), ?_⟩
  refine ⟨_, rfl, _, rfl, a, b, rfl, ⟨_, hS⟩, ⟨_, hT⟩, ?_⟩
  refine comp_zip (K := K) ((List.zipWith (· * ·) ns ms).map PySem.W.Dat.int) hS hT (by simp [hl2]) (by simp [hl2]) (by rw [List.length_map]; exact Nat.le_of_lt (small1000 hl)) (fun i x y H' d hx hy hd hs => ?_) (fun σ' H2 Q1 Q2 hq h => ?_) (fun D H' ys hs hy hD hf => ?_)
  . rw [List.getElem?_map] at hx hy hd
    rw [List.getElem?_zipWith] at hd
    cases e : ns[i]? with
    | none => rw [e] at hx; cases hx
    | some n =>
      cases e2 : ms[i]? with
      | none => rw [e2] at hy; cases hy
      | some m =>
        rw [e] at hx hd
        rw [e2] at hy hd
        cases hx; cases hy; cases hd
        exact ⟨_, rfl, _, rfl, n, m, rfl, rfl, mulOk_of (pow_lift (s1 n (List.mem_of_getElem? e))) (pow_lift (s2 m (List.mem_of_getElem? e2))), Same.refl _, .int _⟩
  . obtain ⟨v1, e1, v2, e2, i, j, e3, e4, e5, q⟩ := h
    exact ⟨v1, e1, v2, e2, i, j, e3, e4, e5, hq _ _ q⟩
  . refine ⟨D, _, rfl, ?_, q _ hs⟩
    rw [Fzs.ints_inv hf] at hy
    exact SqL.of hy
theorem scDLev : FnScope ["fractions", "bottom"] ["fractions"] (defScope sDLev) := ⟨rfl, rfl, rfl, by decide +kernel, rfl, by decide +kernel, by decide +kernel⟩
theorem ok_dlev (F : Fun K "levelled" "levelled" sDLev f fd)
    (G : FnOk P w K mg base CX0 2 g gd ["numbers"] (spCM K)) (bG : Binds K gd ["numbers"] []) (kG : PySem.W.keepIn K (.ref g) = true) (mG : mg "common_multiple" = some (.ref g)) (m_tuple : mg "tuple" = none) :
    FnOk P w K mg base CX0 3 f fd ["fractions"] (spP K RLev) := by
  refine okP F scDLev (fun ds d h => ?_) (fun cdv A0 outer s0 H0 E0 hr => ?_)
  . obtain ⟨c, x, y, z, rfl, _⟩ := h; rfl
  have r := hr.mono (show 2 <= 2 by decide)
  refine ⟨_, (zss_cons (zs_set (i := 1) scDLev.nd rfl (Or.inr rfl) (ze_call G r rfl mG kG bG .nil pass0 (za_cons (ze_comp (own := ["fraction"]) scDLev rfl ⟨by decide +kernel, rfl, by decide +kernel, by decide +kernel, by decide +kernel, by decide +kernel, by decide +kernel, by decide +kernel, by decide +kernel⟩ (zi_tup (zv 0)) (fun C fp s H nd => zg_name (i := 0) nd rfl (Or.inl rfl)) (fun C fp s H => zts_nil) (fun C fp s H => (ze_ix ix_tupC (zv 0) ze_int (fun _ _ => rfl)))) za_nil)))
    (zss_one (zs_ret (ze_tup (za_c (ze_callTy call_tuple_of rfl m_tuple (by rfl) (za_cons (ze_comp (own := ["fraction"]) scDLev rfl ⟨by decide +kernel, rfl, by decide +kernel, by decide +kernel, by decide +kernel, by decide +kernel, by decide +kernel, by decide +kernel, by decide +kernel⟩ (zi_tup (zv 0)) (fun C fp s H nd => zg_name (i := 0) nd rfl (Or.inl rfl)) (fun C fp s H => zts_nil) (fun C fp s H => (ze_op op_mulB (ze_ix ix_tupC (zv 0) ze_int (fun _ _ => rfl)) (ze_op op_fdivB (zv 2) (ze_ix ix_tupC (zv 0) ze_int (fun _ _ => rfl)))))) za_nil)) (za_n (zv 1) za_nil)))))), fun ds d h => ?_⟩
  obtain ⟨c, x, y, z, rfl, pb, hc, rfl⟩ := h
  have lb := lev_lb pb
  obtain ⟨l1, l2, l3⟩ := pb.lo
  have Lp := lcm3_pos x y z
  have px := x.den_pos
  have py := y.den_pos
  have pz := z.den_pos
  have d1 : (x.den : Int) ∣ (lcm3 x y z : Int) := Int.natCast_dvd_natCast.mpr (lcm3_d1 x y z)
  have d2 : (y.den : Int) ∣ (lcm3 x y z : Int) := Int.natCast_dvd_natCast.mpr (lcm3_d2 x y z)
  have d3 : (z.den : Int) ∣ (lcm3 x y z : Int) := Int.natCast_dvd_natCast.mpr (lcm3_d3 x y z)
  refine S.letC (EI.cCM (bs := [(x.den : Int), y.den, z.den]) (C := lcm3 x y z) (A1.cons (E1.vwo (E1.comp3 (Wk.tup (E1.var rfl)) (E1.ixT (E1.var rfl) E1.int rfl) (E1.ixT (E1.var rfl) E1.int rfl) (E1.ixT (E1.var rfl) E1.int rfl))) A1.nil) ?_ (by omega) (lb.bc.up hc)) (fun s ⟨_, e, _⟩ => by rw [e]; rfl) fun s ⟨L, e, L0, Ld, LC⟩ => ?_
  . intro b hb
    simp only [List.mem_cons, List.mem_nil_iff, or_false] at hb
    rcases hb with rfl | rfl | rfl
    . exact ⟨by omega, d1⟩
    . exact ⟨by omega, d2⟩
    . exact ⟨by omega, d3⟩
  subst e
  have eL : L = (lcm3 x y z : Int) := by
    obtain ⟨M, rfl⟩ := Int.eq_ofNat_of_zero_le (Int.le_of_lt L0)
    have h1 : lcm3 x y z ∣ M := Nat.lcm_dvd (Nat.lcm_dvd (Int.natCast_dvd_natCast.mp (Ld x.den (by simp))) (Int.natCast_dvd_natCast.mp (Ld y.den (by simp)))) (Int.natCast_dvd_natCast.mp (Ld z.den (by simp)))
    have h2 : M ∣ lcm3 x y z := Int.natCast_dvd_natCast.mp LC
    exact congrArg _ (Nat.dvd_antisymm h2 h1)
  subst eL
  have bL : Bt (lcm3 x y z : Int) 3000 := lb.bc.up hc
  have one : ∀ {w : Rat}, 0 < w.den -> (w.den : Int) ∣ (lcm3 x y z : Int) -> CDivB (lcm3 x y z : Int) w.den /\ (lcm3 x y z : Int).fdiv w.den = (lcm3 x y z : Int) / w.den /\ Bt ((lcm3 x y z : Int) / w.den) 3000 := fun {w} pw dw => by
    have h := lev_part (b := (w.den : Int)) (by omega) (show (0 : Int) < lcm3 x y z by omega) dw bL
    have e := Int.fdiv_eq_ediv_of_dvd dw
    rw [e] at h
    exact ⟨⟨by omega, (bt_dvd dw (by omega) bL).log (by omega)⟩, e, h.2⟩
  obtain ⟨c1, f1, g1⟩ := one px d1
  obtain ⟨c2, f2, g2⟩ := one py d2
  obtain ⟨c3, f3, g3⟩ := one pz d3
  refine S.ret1 (s := .dat (lev x y z)) ?_ ⟨rfl, rfl⟩
  unfold lev lvD
  refine E1.tu (A1.cons (E1.tupleL (A1.cons (E1.vwo (E1.comp3 (Wk.tup (E1.var rfl)) (E1.mul (E1.ixT (E1.var rfl) E1.int rfl) (E1.to (E1.fdiv (E1.var rfl) (E1.ixT (E1.var rfl) E1.int rfl) c1) (by rw [f1])) ((l1.bt.up hc).mulOk g1)) (E1.mul (E1.ixT (E1.var rfl) E1.int rfl) (E1.to (E1.fdiv (E1.var rfl) (E1.ixT (E1.var rfl) E1.int rfl) c2) (by rw [f2])) ((l2.bt.up hc).mulOk g2)) (E1.mul (E1.ixT (E1.var rfl) E1.int rfl) (E1.to (E1.fdiv (E1.var rfl) (E1.ixT (E1.var rfl) E1.int rfl) c3) (by rw [f3])) ((l3.bt.up hc).mulOk g3)))) A1.nil)) (A1.cons (E1.var rfl) A1.nil)) rfl (lsz (n := 2) rfl z2)
theorem scMade : FnScope ["_law_top", "_law_bottom", "_law_by"] ["_law_top", "_law_bottom"] (defScope sMade) := ⟨rfl, rfl, rfl, by decide +kernel, rfl, by decide +kernel, by decide +kernel⟩
theorem ok_made (F : Fun K "_law_made" "_law_made" sMade f fd)
    (G : FnOk P w K mg base CX0 1 g gd ["_law_one", "_law_other"] spDiv) (bG : Binds K gd ["_law_one", "_law_other"] []) (kG : PySem.W.keepIn K (.ref g) = true) (mG : mg "_law_divisor" = some (.ref g)) :
    FnOk P w K mg base CX0 2 f fd ["_law_top", "_law_bottom"] (spMade K) := by
  refine F.okZ scMade (fun vs H Q E h => ?_) (fun cdv A outer s H vs Q E hr h => ?_)
  . obtain ⟨t, b, rfl, _⟩ := h; rfl
  obtain ⟨t, b, rfl, b0, bb, q⟩ := h
  have r := hr.mono (show 1 <= 1 by decide)
  refine ⟨_, (zss_cons (zs_set (i := 2) scMade.nd rfl (Or.inl rfl) (ze_call G r rfl mG kG bG .nil pass0 (za_n (zv 0) (za_n (zv 1) za_nil))))
    (zss_cons (zs_if (zt_cmpR op_lt (zv 1) ze_int (nomark _)) (zss_one (zs_set (i := 2) scMade.nd rfl (Or.inl rfl) (ze_op op_sub ze_int (zv 2)))) zss_nil)
    (zss_one (zs_ret (ze_tup (za_b (ze_op op_fdivB (zv 0) (zv 2)) (za_b (ze_op op_fdivB (zv 1) (zv 2)) za_nil))))))), ?_⟩
  refine ⟨_, rfl, _, rfl, t, b, rfl, ?_⟩
  have hg : 0 < gcdN [t, b] := gcdN_pos ⟨b, by simp, by omega⟩
  have hle : gcdN [t, b] <= b.natAbs := gcdN_le (by simp) (by omega)
  have d1 : (gcdN [t, b] : Int) ∣ t := gcdN_dvd (by simp)
  have d2 : (gcdN [t, b] : Int) ∣ b := gcdN_dvd (by simp)
  rw [<- gcdN2]
  have g0 : ((gcdN [t, b] : Nat) : Int) ≠ 0 := by omega
  have gb : Bt ((gcdN [t, b] : Nat) : Int) 8000 := by unfold Bt; rw [Int.natAbs_natCast]; exact Nat.le_trans hle bb
  have gl := gb.log g0
  refine ⟨_, rfl, _, _, rfl, rfl, _, rfl, ?_⟩
  refine ite2 (fun z => absurd (of_decide_eq_true z) (by omega)) (fun _ => ?_)
  refine ⟨_, rfl, _, rfl, _, _, rfl, rfl, ⟨g0, gl⟩, _, rfl, _, rfl, _, _, rfl, rfl, ⟨g0, gl⟩, (by show 2 <= sizeLine; decide), fun r hr' => ?_⟩
  refine q r _ (Same.new hr' _) ?_
  rw [upd_same]
  show some (HO.tup [V.int (t.fdiv _), V.int (b.fdiv _)]) = _
  rw [Int.fdiv_eq_ediv_of_dvd d1, Int.fdiv_eq_ediv_of_dvd d2]
  rfl
theorem scNearT : FnScope ["_law_purse_here", "_law_found", "_law_k", "_law_top"] ["_law_purse_here"] (defScope sNearT) := ⟨rfl, rfl, rfl, by decide +kernel, rfl, by decide +kernel, by decide +kernel⟩
theorem ok_neart (F : Fun K "_law_near" "_law_near" sNearT f fd)
    (G : FnOk P w K mg base CX0 1 g gd ["_law_purse_here", "_law_out_of"] spDraw) (bG : Binds K gd ["_law_purse_here", "_law_out_of"] []) (kG : PySem.W.keepIn K (.ref g) = true) (mG : mg "_law_draw" = some (.ref g))
    (G2 : FnOk P w K mg base CX0 2 g2 gd2 ["_law_top", "_law_bottom"] (spMade K)) (bG2 : Binds K gd2 ["_law_top", "_law_bottom"] []) (kG2 : PySem.W.keepIn K (.ref g2) = true) (mG2 : mg "_law_made" = some (.ref g2)) (m_range : mg "range" = none) (m_tuple : mg "tuple" = none) :
    FnOk P w K mg base CX0 3 f fd ["_law_purse_here"] (spU K RNb3) := by
  refine okU F scNearT (fun ds d h => ?_) (fun cdv A0 outer s0 H0 E0 hr => ?_)
  . obtain ⟨rfl, _⟩ := h; rfl
  have r := hr.mono (show 1 <= 2 by decide)
  have r2 := hr.mono (show 2 <= 2 by decide)
  refine ⟨_, (zss_cons (zs_set (i := 1) scNearT.nd rfl (Or.inl rfl) (ze_lst za_nil))
    (zss_cons (zs_for PassesOwn.never rfl (zi_range1 rfl m_range (za_i za_nil)) (zg_name (i := 2) scNearT.nd rfl (Or.inl rfl)) (zss_cons (zs_set (i := 3) scNearT.nd rfl (Or.inl rfl) (ze_call G r rfl mG kG bG .nil pass0 (za_n (zv 0) (za_s (ze_ix ix_list (ze_lst (za_i (za_i (za_b (ze_op op_pow ze_int ze_int) za_nil)))) (ze_call G r rfl mG kG bG .nil pass0 (za_n (zv 0) (za_i za_nil))) pix_call) za_nil))))
    (zss_one (zs_expr (ze_append (zv 1) (ze_call G2 r2 rfl mG2 kG2 bG2 .nil pass0 (za_b (ze_op op_sub (zv 3) ze_int) (za_b (ze_op op_add ze_int (ze_call G r rfl mG kG bG .nil pass0 (za_n (zv 0) (za_s (ze_ix ix_list (ze_lst (za_i (za_i (za_i za_nil)))) (ze_call G r rfl mG kG bG .nil pass0 (za_n (zv 0) (za_i za_nil))) pix_call) za_nil)))) za_nil))))))))
    (zss_one (zs_ret (ze_callTy call_tuple_of rfl m_tuple (by rfl) (za_n (zv 1) za_nil)))))), fun q0 ds C h => ?_⟩
  obtain ⟨rfl, rfl⟩ := h
  refine S.letO (ds := []) (E1.li A1.nil rfl (lsz (n := 0) rfl z0)) rfl ?_
  refine S.seq (M := fun τ' => ∃ (ws : List Rat) (o o2 : Sl), τ' = [.pu, .own (ws.map fun w => tI (qf w)), o, o2] /\ ws.length = 3 /\ ∀ w ∈ ws, Nb w) ?_ fun τ' ⟨ws, o, o2, eτ, l, hw⟩ => ?_
  . refine S.for (Wk.r3 (A1.cons E1.int A1.nil)) (fun i τ' => ∃ (ws : List Rat) (o o2 : Sl), τ' = [.pu, .own (ws.map fun w => tI (qf w)), o, o2] /\ ws.length = i /\ ∀ w ∈ ws, Nb w) ⟨[], _, _, rfl, rfl, by simp⟩ (fun i d τ1 hd ⟨ws, o, o2, e1, l, hw⟩ => ?_) (fun τ1 h => h)
    subst e1
    have hi : i < 3 := by rcases get3 hd with ⟨rfl, _⟩ | ⟨rfl, _⟩ | ⟨rfl, _⟩ <;> decide
    refine ⟨_, Gd.name, ?_⟩
    refine S.letC (EI.drawP (M := 10 ^ 9) (EI.pick (ms := [7, 41, 10 ^ 9]) (E1.vwo (by (repeat' (first | exact E1.var rfl | exact E1.int | exact A1.nil | apply A1.cons | apply E1.sub | apply E1.pow | apply E1.ixT | apply E1.tu | apply E1.li | rfl | exact lsz (n := 2) rfl z2 | exact lsz (n := 3) rfl z3 | exact lsz (n := 4) rfl z4 | exact cpow10 (by decide) (by decide))))) (EI.draw (A1.cons (E1.varP rfl) (A1.cons E1.int A1.nil)) (by decide : (0 : Int) < 3) (by decide)) fun d hd => hd) (by decide) (by decide) rfl) (fun s ⟨_, e, _⟩ => by rw [e]; rfl) fun s ⟨t, e, h0, h1⟩ => ?_
    subst e
    refine S.append (i := 1) (C := fun d => ∃ w, d = tI (qf w) /\ Nb w) rfl (E.mono (E.cMadeA (P := fun a b => Bt a 32 /\ Bt b 8 /\ 0 < b) (C := fun ss => ∃ b : Int, ss = [.dat (.int (t - 3)), .dat (.int b)] /\ 0 < b /\ b <= 60) (A.cons (C1 := fun s => .dat (.int (t - 3)) = s) (by (repeat' (first | exact E1.var rfl | exact E1.int | exact A1.nil | apply A1.cons | apply E1.sub | apply E1.pow | apply E1.ixT | apply E1.tu | apply E1.li | rfl | exact lsz (n := 2) rfl z2 | exact lsz (n := 3) rfl z3 | exact lsz (n := 4) rfl z4 | exact cpow10 (by decide) (by decide)))) (fun _ _ => A.one (EI.mono (P' := fun b => 0 < b /\ b <= 60) (EI.op EI.lit (EI.drawP (M := 60) (EI.pick (ms := [1, 6, 60]) (E1.vwo (by (repeat' (first | exact E1.var rfl | exact E1.int | exact A1.nil | apply A1.cons | apply E1.sub | apply E1.pow | apply E1.ixT | apply E1.tu | apply E1.li | rfl | exact lsz (n := 2) rfl z2 | exact lsz (n := 3) rfl z3 | exact lsz (n := 4) rfl z4 | exact cpow10 (by decide) (by decide))))) (EI.draw (A1.cons (E1.varP rfl) (A1.cons E1.int A1.nil)) (by decide : (0 : Int) < 3) (by decide)) fun d hd => hd) (by decide) (by decide) rfl)) fun k ⟨i, j, hi, hj, ek⟩ => by omega)) ?_) ?_) ?_) ?_ ?_
    . rintro s ss rfl ⟨s', rfl, b, rfl, h⟩
      exact ⟨b, rfl, h⟩
    . rintro ss ⟨b, rfl, g0, g1⟩
      exact ⟨t - 3, b, rfl, ⟨by unfold Bt; omega, by unfold Bt; omega, g0⟩, g0, by unfold Bt; omega⟩
    . rintro s ⟨a, b, rfl, h1, h2, h3⟩
      exact ⟨_, rfl, noLs_ints _, _, rfl, a, b, rfl, h3, h1, h2⟩
    . rw [List.length_map, l]; exact Nat.lt_trans hi (by decide)
    . rintro d ⟨w, rfl, hn⟩
      refine ⟨ws ++ [w], _, _, by rw [List.map_append]; rfl, by simp [l], fun v hv => ?_⟩
      rcases List.mem_append.mp hv with h | h
      . exact hw v h
      . rw [List.mem_singleton.mp h]; exact hn
  subst eτ
  obtain ⟨x, y, z, rfl⟩ : ∃ x y z, ws = [x, y, z] := by
    match ws, l with
    | [x, y, z], _ => exact ⟨x, y, z, rfl⟩
  exact S.ret1 (s := .dat (ptQ x y z)) (E1.tupleL (A1.cons (E1.varO rfl) A1.nil)) ⟨_, ⟨x, y, z, rfl, hw x (by simp), hw y (by simp), hw z (by simp)⟩, rfl, rfl⟩
end
end K26
end
section
namespace K26
open PySem L2 Num K0 D
open PySem.W (Dat)
theorem us1 {P : List Value -> Prop} (h : ∀ a, P [a]) : ∀ (us : List Value), us.length = 1 -> P us := fun us l => by
  cases us with
  | nil => cases l
  | cons x0 us =>
  cases us with
  | cons _ _ => simp at l
  | nil => exact h x0
theorem us2 {P : List Value -> Prop} (h : ∀ a b, P [a, b]) : ∀ (us : List Value), us.length = 2 -> P us := fun us l => by
  cases us with
  | nil => cases l
  | cons x0 us =>
  cases us with
  | nil => cases l
  | cons x1 us =>
  cases us with
  | cons _ _ => simp at l
  | nil => exact h x0 x1
theorem us3 {P : List Value -> Prop} (h : ∀ a b c, P [a, b, c]) : ∀ (us : List Value), us.length = 3 -> P us := fun us l => by
  cases us with
  | nil => cases l
  | cons x0 us =>
  cases us with
  | nil => cases l
  | cons x1 us =>
  cases us with
  | nil => cases l
  | cons x2 us =>
  cases us with
  | cons _ _ => simp at l
  | nil => exact h x0 x1 x2
theorem us4 {P : List Value -> Prop} (h : ∀ a b c d, P [a, b, c, d]) : ∀ (us : List Value), us.length = 4 -> P us := fun us l => by
  cases us with
  | nil => cases l
  | cons x0 us =>
  cases us with
  | nil => cases l
  | cons x1 us =>
  cases us with
  | nil => cases l
  | cons x2 us =>
  cases us with
  | nil => cases l
  | cons x3 us =>
  cases us with
  | cons _ _ => simp at l
  | nil => exact h x0 x1 x2 x3
theorem all_mk {l : PySem.W.OpenLaw} {w : World} {K : PySem.W.Frag} {h : Heap} {mg : Str -> Option Value} {fa : Addr} (X : K.In h) (G : h.Ns mainGlobals mg) (hfa : mg "law" = some (.ref fa))
    (d1 : DefAt K "common_divisor" sCD) (d2 : DefAt K "reduced" sRed) (d3 : DefAt K "negated" sNeg) (d4 : DefAt K "row_sum" sRowSum) (d5 : DefAt K "row_difference" sRDif) (d6 : DefAt K "sum_of_products" sSopL) (d7 : DefAt K "cross_product" sCross) (d8 : DefAt K "common_multiple" sCM) (d9 : DefAt K "levelled" sLevL) (d10 : DefAt K "lowered" sDLow) (d11 : DefAt K "levels_added" sLAdd) (d12 : DefAt K "level_negated" sLNeg) (d13 : DefAt K "levelled_points" sLvP) (d16 : DefAt K "plain" sPlain) (d17 : DefAt K "size" sSize) (d18 : DefAt K "whole_table" sWT) (d19 : DefAt K "level_turned" sLT) (d21 : DefAt K "size_of" sSizeOf) (d22 : DefAt K "times" sTimes) (d23 : DefAt K "turn_of_three" sT3) (d24 : DefAt K "turn_between" sTBw) (d27 : DefAt K "on_one_level" sOneL) (d28 : DefAt K "led_three" sLedT) (d29 : DefAt K "shift_to" sShiftTo) (d31 : DefAt K "_law_mixed" sMixed) (d32 : DefAt K "_law_purse" sPurse) (d33 : DefAt K "_law_draw" sDraw) (d35 : DefAt K "_law_whole" sWhole) (d36 : DefAt K "_law_divisor" sDiv) (d37 : DefAt K "_law_plain" sLPlain4) (d38 : DefAt K "_law_made" sMadeN) (d39 : DefAt K "_law_rows" sRowsp1) (d40 : DefAt K "_law_turned" sLTurnedp1) (d41 : DefAt K "_law_is_point" sDIsPoint) (d42 : DefAt K "_law_added" sLAdded) (d43 : DefAt K "_law_near" sPNear) (d44 : DefAt K "_law_square" sSq2) (d45 : DefAt K "_law_on_line" sOnL) (d46 : DefAt K "_law_bent" sBent26) (d47 : DefAt K "_law_right" sRight26) (d48 : DefAt K "law" sLaw)
    (tb_NOTHING : TupTAt K "NOTHING" [1, 0, 0, 0]) (tb_PAIRS : TupTTAt K "PAIRS" pairs3) (z_abs : PySem.W.nsIn K mainGlobals "abs" = some none) (z_tuple : PySem.W.nsIn K mainGlobals "tuple" = some none) (z_zip : PySem.W.nsIn K mainGlobals "zip" = some none) (z_sum : PySem.W.nsIn K mainGlobals "sum" = some none) (z_range : PySem.W.nsIn K mainGlobals "range" = some none) (z_len : PySem.W.nsIn K mainGlobals "len" = some none) (z_isinstance : PySem.W.nsIn K mainGlobals "isinstance" = some none) (z_int : PySem.W.nsIn K mainGlobals "int" = some none) (z_bool : PySem.W.nsIn K mainGlobals "bool" = some none) :
    ∃ fd : FuncData, (∀ (s : Shared) (v : Value), BindsTo s fd ⟨[v], []⟩ [("_law_script", v)]) /\ ∀ base : Heap, K.In base -> base.Ns mainGlobals mg -> FnOk l.prog w K mg base CX0 8 fa fd ["_law_script"] (spLaw K) := by
  obtain ⟨f1, fd1, F1, m1, k1⟩ := d1.get X G
  have b1 := F1.binds (ps := ["numbers"]) (by refine fun _ _ _ _ _ _ => us1 ?_; intros; rfl)
  obtain ⟨f2, fd2, F2, m2, k2⟩ := d2.get X G
  have b2 := F2.binds (ps := ["numbers"]) (by refine fun _ _ _ _ _ _ => us1 ?_; intros; rfl)
  obtain ⟨f3, fd3, F3, m3, k3⟩ := d3.get X G
  have b3 := F3.binds (ps := ["numbers"]) (by refine fun _ _ _ _ _ _ => us1 ?_; intros; rfl)
  obtain ⟨f4, fd4, F4, m4, k4⟩ := d4.get X G
  have b4 := F4.binds (ps := ["one", "other"]) (by refine fun _ _ _ _ _ _ => us2 ?_; intros; rfl)
  obtain ⟨f5, fd5, F5, m5, k5⟩ := d5.get X G
  have b5 := F5.binds (ps := ["one", "other"]) (by refine fun _ _ _ _ _ _ => us2 ?_; intros; rfl)
  obtain ⟨f6, fd6, F6, m6, k6⟩ := d6.get X G
  have b6 := F6.binds (ps := ["one", "other"]) (by refine fun _ _ _ _ _ _ => us2 ?_; intros; rfl)
  obtain ⟨f7, fd7, F7, m7, k7⟩ := d7.get X G
  have b7 := F7.binds (ps := ["one", "other"]) (by refine fun _ _ _ _ _ _ => us2 ?_; intros; rfl)
  obtain ⟨f8, fd8, F8, m8, k8⟩ := d8.get X G
  have b8 := F8.binds (ps := ["numbers"]) (by refine fun _ _ _ _ _ _ => us1 ?_; intros; rfl)
  obtain ⟨f9, fd9, F9, m9, k9⟩ := d9.get X G
  have b9 := F9.binds (ps := ["fractions"]) (by refine fun _ _ _ _ _ _ => us1 ?_; intros; rfl)
  obtain ⟨f10, fd10, F10, m10, k10⟩ := d10.get X G
  have b10 := F10.binds (ps := ["level"]) (by refine fun _ _ _ _ _ _ => us1 ?_; intros; rfl)
  obtain ⟨f11, fd11, F11, m11, k11⟩ := d11.get X G
  have b11 := F11.binds (ps := ["one", "other"]) (by refine fun _ _ _ _ _ _ => us2 ?_; intros; rfl)
  obtain ⟨f12, fd12, F12, m12, k12⟩ := d12.get X G
  have b12 := F12.binds (ps := ["level"]) (by refine fun _ _ _ _ _ _ => us1 ?_; intros; rfl)
  obtain ⟨f13, fd13, F13, m13, k13⟩ := d13.get X G
  have b13 := F13.binds (ps := ["points"]) (by refine fun _ _ _ _ _ _ => us1 ?_; intros; rfl)
  obtain ⟨f16, fd16, F16, m16, k16⟩ := d16.get X G
  have b16 := F16.binds (ps := ["four"]) (by refine fun _ _ _ _ _ _ => us1 ?_; intros; rfl)
  obtain ⟨f17, fd17, F17, m17, k17⟩ := d17.get X G
  have b17 := F17.binds (ps := ["four"]) (by refine fun _ _ _ _ _ _ => us1 ?_; intros; rfl)
  obtain ⟨f18, fd18, F18, m18, k18⟩ := d18.get X G
  have b18 := F18.binds (ps := ["four"]) (by refine fun _ _ _ _ _ _ => us1 ?_; intros; rfl)
  obtain ⟨f19, fd19, F19, m19, k19⟩ := d19.get X G
  have b19 := F19.binds (ps := ["four", "level"]) (by refine fun _ _ _ _ _ _ => us2 ?_; intros; rfl)
  obtain ⟨f21, fd21, F21, m21, k21⟩ := d21.get X G
  have b21 := F21.binds (ps := ["way"]) (by refine fun _ _ _ _ _ _ => us1 ?_; intros; rfl)
  obtain ⟨f22, fd22, F22, m22, k22⟩ := d22.get X G
  have b22 := F22.binds (ps := ["number", "way"]) (by refine fun _ _ _ _ _ _ => us2 ?_; intros; rfl)
  obtain ⟨f23, fd23, F23, m23, k23⟩ := d23.get X G
  have b23 := F23.binds (ps := ["rows", "others"]) (by refine fun _ _ _ _ _ _ => us2 ?_; intros; rfl)
  obtain ⟨f24, fd24, F24, m24, k24⟩ := d24.get X G
  have b24 := F24.binds (ps := ["first", "second", "third", "fourth"]) (by refine fun _ _ _ _ _ _ => us4 ?_; intros; rfl)
  obtain ⟨f27, fd27, F27, m27, k27⟩ := d27.get X G
  have b27 := F27.binds (ps := ["points", "others"]) (by refine fun _ _ _ _ _ _ => us2 ?_; intros; rfl)
  obtain ⟨f28, fd28, F28, m28, k28⟩ := d28.get X G
  have b28 := F28.binds (ps := ["points", "others"]) (by refine fun _ _ _ _ _ _ => us2 ?_; intros; rfl)
  obtain ⟨f29, fd29, F29, m29, k29⟩ := d29.get X G
  have b29 := F29.binds (ps := ["four", "one", "other"]) (by refine fun _ _ _ _ _ _ => us3 ?_; intros; rfl)
  obtain ⟨f31, fd31, F31, m31, k31⟩ := d31.get X G
  have b31 := F31.binds (ps := ["_law_cell", "_law_k"]) (by refine fun _ _ _ _ _ _ => us2 ?_; intros; rfl)
  obtain ⟨f32, fd32, F32, m32, k32⟩ := d32.get X G
  have b32 := F32.binds (ps := ["_law_script"]) (by refine fun _ _ _ _ _ _ => us1 ?_; intros; rfl)
  obtain ⟨f33, fd33, F33, m33, k33⟩ := d33.get X G
  have b33 := F33.binds (ps := ["_law_purse_here", "_law_out_of"]) (by refine fun _ _ _ _ _ _ => us2 ?_; intros; rfl)
  obtain ⟨f35, fd35, F35, m35, k35⟩ := d35.get X G
  have b35 := F35.binds (ps := ["_law_found"]) (by refine fun _ _ _ _ _ _ => us1 ?_; intros; rfl)
  obtain ⟨f36, fd36, F36, m36, k36⟩ := d36.get X G
  have b36 := F36.binds (ps := ["_law_one", "_law_other"]) (by refine fun _ _ _ _ _ _ => us2 ?_; intros; rfl)
  obtain ⟨f37, fd37, F37, m37, k37⟩ := d37.get X G
  have b37 := F37.binds (ps := ["_law_four"]) (by refine fun _ _ _ _ _ _ => us1 ?_; intros; rfl)
  obtain ⟨f38, fd38, F38, m38, k38⟩ := d38.get X G
  have b38 := F38.binds (ps := ["_law_top", "_law_bottom"]) (by refine fun _ _ _ _ _ _ => us2 ?_; intros; rfl)
  obtain ⟨f39, fd39, F39, m39, k39⟩ := d39.get X G
  have b39 := F39.binds (ps := ["_law_four"]) (by refine fun _ _ _ _ _ _ => us1 ?_; intros; rfl)
  obtain ⟨f40, fd40, F40, m40, k40⟩ := d40.get X G
  have b40 := F40.binds (ps := ["_law_four", "_law_point"]) (by refine fun _ _ _ _ _ _ => us2 ?_; intros; rfl)
  obtain ⟨f41, fd41, F41, m41, k41⟩ := d41.get X G
  have b41 := F41.binds (ps := ["_law_found", "_law_due"]) (by refine fun _ _ _ _ _ _ => us2 ?_; intros; rfl)
  obtain ⟨f42, fd42, F42, m42, k42⟩ := d42.get X G
  have b42 := F42.binds (ps := ["_law_one", "_law_other"]) (by refine fun _ _ _ _ _ _ => us2 ?_; intros; rfl)
  obtain ⟨f43, fd43, F43, m43, k43⟩ := d43.get X G
  have b43 := F43.binds (ps := ["_law_purse_here"]) (by refine fun _ _ _ _ _ _ => us1 ?_; intros; rfl)
  obtain ⟨f44, fd44, F44, m44, k44⟩ := d44.get X G
  have b44 := F44.binds (ps := ["_law_one", "_law_other"]) (by refine fun _ _ _ _ _ _ => us2 ?_; intros; rfl)
  obtain ⟨f45, fd45, F45, m45, k45⟩ := d45.get X G
  have b45 := F45.binds (ps := ["_law_points"]) (by refine fun _ _ _ _ _ _ => us1 ?_; intros; rfl)
  obtain ⟨f46, fd46, F46, m46, k46⟩ := d46.get X G
  have b46 := F46.binds (ps := ["_law_purse_here", "_law_others"]) (by refine fun _ _ _ _ _ _ => us2 ?_; intros; rfl)
  obtain ⟨f47, fd47, F47, m47, k47⟩ := d47.get X G
  have b47 := F47.binds (ps := ["_law_points", "_law_others", "_law_due"]) (by refine fun _ _ _ _ _ _ => us3 ?_; intros; rfl)
  obtain ⟨fd48, F48, b48⟩ := d48.law (y := "_law_script") X G hfa fun _ _ _ _ _ _ _ => rfl
  obtain ⟨dNOTHING, m_NOTHING, t_NOTHING⟩ := tb_NOTHING.get X G
  obtain ⟨dPAIRS, m_PAIRS, t_PAIRS⟩ := tb_PAIRS.get X G
  have m_abs := PySem.W.mg_none_of X G z_abs
  have m_tuple := PySem.W.mg_none_of X G z_tuple
  have m_zip := PySem.W.mg_none_of X G z_zip
  have m_sum := PySem.W.mg_none_of X G z_sum
  have m_range := PySem.W.mg_none_of X G z_range
  have m_len := PySem.W.mg_none_of X G z_len
  have m_isinstance := PySem.W.mg_none_of X G z_isinstance
  have m_int := PySem.W.mg_none_of X G z_int
  have m_bool := PySem.W.mg_none_of X G z_bool
  refine ⟨fd48, b48, fun base _ _ => ?_⟩
  have o1_CD := ok_cd (P := l.prog) (w := w) (mg := mg) (base := base) F1  m_abs 
  have o2_Red := ok_red (P := l.prog) (w := w) (mg := mg) (base := base) F2 o1_CD b1 k1 m1 m_tuple 
  have o3_Neg := ok_neg (P := l.prog) (w := w) (mg := mg) (base := base) F3  m_tuple 
  have o4_RowSum := ok_rowsum (P := l.prog) (w := w) (mg := mg) (base := base) F4  m_tuple m_zip 
  have o5_RDif := ok_rdif (P := l.prog) (w := w) (mg := mg) (base := base) F5  m_tuple m_zip 
  have o7_Cross := ok_cross (P := l.prog) (w := w) (mg := mg) (base := base) F7   
  have o8_CM := ok_cm (P := l.prog) (w := w) (mg := mg) (base := base) F8 o1_CD b1 k1 m1  
  have o9_LevL := ok_levl (P := l.prog) (w := w) (mg := mg) (base := base) F9 o8_CM b8 k8 m8 m_tuple 
  have o10_DLow := ok_dlow (P := l.prog) (w := w) (mg := mg) (base := base) F10 o2_Red b2 k2 m2 m_tuple 
  have o11_LAdd := ok_ladd (P := l.prog) (w := w) (mg := mg) (base := base) F11  m_tuple m_zip 
  have o12_LNeg := ok_lneg (P := l.prog) (w := w) (mg := mg) (base := base) F12 o3_Neg b3 k3 m3  
  have o13_LvP := ok_lvp (P := l.prog) (w := w) (mg := mg) (base := base) F13 o9_LevL b9 k9 m9 m_range m_len 
  have o16_Plain := ok_plain (P := l.prog) (w := w) (mg := mg) (base := base) F16 o2_Red b2 k2 m2 o3_Neg b3 k3 m3  
  have o18_WT := ok_wt (P := l.prog) (w := w) (mg := mg) (base := base) F18   
  have o22_Times := ok_times (P := l.prog) (w := w) (mg := mg) (base := base) F22  m_tuple 
  have o27_OneL := ok_onel (P := l.prog) (w := w) (mg := mg) (base := base) F27 o13_LvP b13 k13 m13 o22_Times b22 k22 m22  
  have o31_Mixed := ok_mixed (P := l.prog) (w := w) (mg := mg) (base := base) F31   
  have o32_Purse := ok_purse (P := l.prog) (w := w) (mg := mg) (base := base) F32 o31_Mixed b31 k31 m31 m_len m_abs m_range 
  have o33_Draw := ok_draw (P := l.prog) (w := w) (mg := mg) (base := base) F33   
  have o35_Whole := ok_whole (P := l.prog) (w := w) (mg := mg) (base := base) F35  m_isinstance m_int m_bool 
  have o36_Div := ok_div (P := l.prog) (w := w) (mg := mg) (base := base) F36  m_abs 
  have o37_LPlain4 := ok_lplain4 (P := l.prog) (w := w) (mg := mg) (base := base) F37 o36_Div b36 k36 m36 m_tuple 
  have o39_Rowsp1 := ok_rowsp1 (P := l.prog) (w := w) (mg := mg) (base := base) F39   
  have o41_DIsPoint := ok_dispoint (P := l.prog) (w := w) (mg := mg) (base := base) F41 o35_Whole b35 k35 m35 m_len m_isinstance m_tuple 
  have o6_Sop := ok_sop (P := l.prog) (w := w) (mg := mg) (base := base) F6  m_sum m_zip 
  have o17_Size := ok_size (P := l.prog) (w := w) (mg := mg) (base := base) F17 o6_Sop b6 k6 m6  
  have o19_LT := ok_lt (P := l.prog) (w := w) (mg := mg) (base := base) F19 o18_WT b18 k18 m18 o6_Sop b6 k6 m6 o17_Size b17 k17 m17 m_tuple 
  have o21_SizeOf := ok_sizeof (P := l.prog) (w := w) (mg := mg) (base := base) F21 o6_Sop b6 k6 m6  
  have o23_T3 := ok_t3 (P := l.prog) (w := w) (mg := mg) (base := base) F23 o5_RDif b5 k5 m5 o4_RowSum b4 k4 m4 o7_Cross b7 k7 m7 o16_Plain b16 k16 m16 o6_Sop b6 k6 m6 m_zip m_NOTHING t_NOTHING
  have o24_TBw := ok_tbw (P := l.prog) (w := w) (mg := mg) (base := base) F24 o7_Cross b7 k7 m7 o23_T3 b23 k23 m23  
  have o29_ShiftTo := ok_shiftto (P := l.prog) (w := w) (mg := mg) (base := base) F29 o10_DLow b10 k10 m10 o11_LAdd b11 k11 m11 o12_LNeg b12 k12 m12 o19_LT b19 k19 m19  
  have o9_DLev := ok_dlev (P := l.prog) (w := w) (mg := mg) (base := base) F9 o8_CM b8 k8 m8 m_tuple 
  have o28_LedT := ok_ledt (P := l.prog) (w := w) (mg := mg) (base := base) F28 o27_OneL b27 k27 m27 o5_RDif b5 k5 m5 o21_SizeOf b21 k21 m21 o24_TBw b24 k24 m24 o29_ShiftTo b29 k29 m29 o9_DLev b9 k9 m9 m_zip m_PAIRS t_PAIRS
  have o38_Made := ok_made (P := l.prog) (w := w) (mg := mg) (base := base) F38 o36_Div b36 k36 m36  
  have o40_LTurnedp1 := ok_lturnedp1 (P := l.prog) (w := w) (mg := mg) (base := base) F40 o39_Rowsp1 b39 k39 m39 o38_Made b38 k38 m38 m_sum m_zip m_tuple 
  have o42_LAdded := ok_ladded (P := l.prog) (w := w) (mg := mg) (base := base) F42 o38_Made b38 k38 m38 m_zip m_tuple 
  have o44_Sq2 := ok_sq2 (P := l.prog) (w := w) (mg := mg) (base := base) F44 o38_Made b38 k38 m38 m_zip 
  have o45_OnL := ok_onl (P := l.prog) (w := w) (mg := mg) (base := base) F45 o38_Made b38 k38 m38 m_zip 
  have o47_Right26 := ok_right26 (P := l.prog) (w := w) (mg := mg) (base := base) F47 o28_LedT b28 k28 m28 o44_Sq2 b44 k44 m44 o41_DIsPoint b41 k41 m41 o37_LPlain4 b37 k37 m37 o42_LAdded b42 k42 m42 o40_LTurnedp1 b40 k40 m40 m_tuple m_len m_isinstance m_zip 
  have o43_NearT := ok_neart (P := l.prog) (w := w) (mg := mg) (base := base) F43 o33_Draw b33 k33 m33 o38_Made b38 k38 m38 m_range m_tuple 
  have o46_Bent26 := ok_bent26 (P := l.prog) (w := w) (mg := mg) (base := base) F46 o33_Draw b33 k33 m33 o43_NearT b43 k43 m43  
  exact ok_law (P := l.prog) (w := w) (mg := mg) (base := base) F48 o32_Purse b32 k32 m32 o43_NearT b43 k43 m43 o45_OnL b45 k45 m45 o33_Draw b33 k33 m33 o42_LAdded b42 k42 m42 o40_LTurnedp1 b40 k40 m40 o37_LPlain4 b37 k37 m37 o46_Bent26 b46 k46 m46 o47_Right26 b47 k47 m47 m_range m_tuple 
theorem walk {l : PySem.W.OpenLaw} {q : Program} {loose : List Str} {XP : (Str -> Option Value) -> Heap -> Prop} {YP : World -> Heap -> Prop} {d : DefRec} {K : Params -> PySem.W.Frag} (hn : l.most = some 63) (hdf : d.params.defaults = [])
    (hY : ∀ (w : World) (h : Heap), YP w h -> (K w.params).In h)
    (F : ∀ (w : World) (mg : Str -> Option Value) (fa : Addr) (h : Heap), (K w.params).In h -> h.Ns mainGlobals mg -> mg d.name = some (.ref fa) ->
      ∃ fd : FuncData, (∀ (s : Shared) (u : Value), BindsTo s fd ⟨[u], []⟩ [("_law_script", u)]) /\ ∀ base : Heap, (K w.params).In base -> base.Ns mainGlobals mg -> FnOk l.prog w (K w.params) mg base CX0 8 fa fd ["_law_script"] (spLaw (K w.params))) :
    PySem.W.WalkO q loose XP YP l.row.toRowW d [] (fun f vs => PySem.call f vs) :=
  L2.walkB (n := 63) (k := 8) (x := "_law_script") (sp := spLaw) hn (by decide) hdf ⟨rfl, by decide, by decide⟩ hY F (fun K H a ns hl hb hS => ⟨a, ns, rfl, hS, hl, hb, fun _ => rfl⟩)
end K26
open PySem PySem.W PyProof.Rows
theorem PySem.W.Fast.te10127841382964041336 : True := True.intro
set_option maxRecDepth 100000 in
set_option maxHeartbeats 0 in
theorem PySem.Challenge.cw_hangrings_k26_three_points_led_holds : PySem.Challenge.rw_hangrings_k26_three_points_led.Holds := by
  w_on; o_law; k_head; (case hw => w_witness2)
  k_fill
  refine K26.walk (l := PySem.Challenge.rw_hangrings_k26_three_points_led) rfl rfl (fun w h Y => PySem.W.kIn_of Y) ?F
  case F =>
    intro w mg fa h KX G hmg
    refine' K26.all_mk KX G hmg (L2.DefAt.mk ?a1 ?l1 ?c1 ?k1) (L2.DefAt.mk ?a2 ?l2 ?c2 ?k2) (L2.DefAt.mk ?a3 ?l3 ?c3 ?k3) (L2.DefAt.mk ?a4 ?l4 ?c4 ?k4) (L2.DefAt.mk ?a5 ?l5 ?c5 ?k5) (L2.DefAt.mk ?a6 ?l6 ?c6 ?k6) (L2.DefAt.mk ?a7 ?l7 ?c7 ?k7) (L2.DefAt.mk ?a8 ?l8 ?c8 ?k8) (L2.DefAt.mk ?a9 ?l9 ?c9 ?k9) (L2.DefAt.mk ?a10 ?l10 ?c10 ?k10) (L2.DefAt.mk ?a11 ?l11 ?c11 ?k11) (L2.DefAt.mk ?a12 ?l12 ?c12 ?k12) (L2.DefAt.mk ?a13 ?l13 ?c13 ?k13) (L2.DefAt.mk ?a16 ?l16 ?c16 ?k16) (L2.DefAt.mk ?a17 ?l17 ?c17 ?k17) (L2.DefAt.mk ?a18 ?l18 ?c18 ?k18) (L2.DefAt.mk ?a19 ?l19 ?c19 ?k19) (L2.DefAt.mk ?a21 ?l21 ?c21 ?k21) (L2.DefAt.mk ?a22 ?l22 ?c22 ?k22) (L2.DefAt.mk ?a23 ?l23 ?c23 ?k23) (L2.DefAt.mk ?a24 ?l24 ?c24 ?k24) (L2.DefAt.mk ?a27 ?l27 ?c27 ?k27) (L2.DefAt.mk ?a28 ?l28 ?c28 ?k28) (L2.DefAt.mk ?a29 ?l29 ?c29 ?k29) (L2.DefAt.mk ?a31 ?l31 ?c31 ?k31) (L2.DefAt.mk ?a32 ?l32 ?c32 ?k32) (L2.DefAt.mk ?a33 ?l33 ?c33 ?k33) (L2.DefAt.mk ?a35 ?l35 ?c35 ?k35) (L2.DefAt.mk ?a36 ?l36 ?c36 ?k36) (L2.DefAt.mk ?a37 ?l37 ?c37 ?k37) (L2.DefAt.mk ?a38 ?l38 ?c38 ?k38) (L2.DefAt.mk ?a39 ?l39 ?c39 ?k39) (L2.DefAt.mk ?a40 ?l40 ?c40 ?k40) (L2.DefAt.mk ?a41 ?l41 ?c41 ?k41) (L2.DefAt.mk ?a42 ?l42 ?c42 ?k42) (L2.DefAt.mk ?a43 ?l43 ?c43 ?k43) (L2.DefAt.mk ?a44 ?l44 ?c44 ?k44) (L2.DefAt.mk ?a45 ?l45 ?c45 ?k45) (L2.DefAt.mk ?a46 ?l46 ?c46 ?k46) (L2.DefAt.mk ?a47 ?l47 ?c47 ?k47) (L2.DefAt.mk ?a48 ?l48 ?c48 ?k48) (L2.TupTAt.four ?tANOTHING ?tLNOTHING ?tCNOTHING ?tENOTHING) (L2.TupTTAt.three ?tAPAIRS ?tLPAIRS ?tCPAIRS ?tEPAIRS ?t1PAIRS ?t2PAIRS ?t3PAIRS) ?z0 ?z1 ?z2 ?z3 ?z4 ?z5 ?z6 ?z7 ?z8
    (case a1 => k_is); (case l1 => k_is); (case c1 => k_is); (case k1 => k_is)
    (case a2 => k_is); (case l2 => k_is); (case c2 => k_is); (case k2 => k_is)
    (case a3 => k_is); (case l3 => k_is); (case c3 => k_is); (case k3 => k_is)
    (case a4 => k_is); (case l4 => k_is); (case c4 => k_is); (case k4 => k_is)
    (case a5 => k_is); (case l5 => k_is); (case c5 => k_is); (case k5 => k_is)
    (case a6 => k_is); (case l6 => k_is); (case c6 => k_is); (case k6 => k_is)
    (case a7 => k_is); (case l7 => k_is); (case c7 => k_is); (case k7 => k_is)
    (case a8 => k_is); (case l8 => k_is); (case c8 => k_is); (case k8 => k_is)
    (case a9 => k_is); (case l9 => k_is); (case c9 => k_is); (case k9 => k_is)
    (case a10 => k_is); (case l10 => k_is); (case c10 => k_is); (case k10 => k_is)
    (case a11 => k_is); (case l11 => k_is); (case c11 => k_is); (case k11 => k_is)
    (case a12 => k_is); (case l12 => k_is); (case c12 => k_is); (case k12 => k_is)
    (case a13 => k_is); (case l13 => k_is); (case c13 => k_is); (case k13 => k_is)
    (case a16 => k_is); (case l16 => k_is); (case c16 => k_is); (case k16 => k_is)
    (case a17 => k_is); (case l17 => k_is); (case c17 => k_is); (case k17 => k_is)
    (case a18 => k_is); (case l18 => k_is); (case c18 => k_is); (case k18 => k_is)
    (case a19 => k_is); (case l19 => k_is); (case c19 => k_is); (case k19 => k_is)
    (case a21 => k_is); (case l21 => k_is); (case c21 => k_is); (case k21 => k_is)
    (case a22 => k_is); (case l22 => k_is); (case c22 => k_is); (case k22 => k_is)
    (case a23 => k_is); (case l23 => k_is); (case c23 => k_is); (case k23 => k_is)
    (case a24 => k_is); (case l24 => k_is); (case c24 => k_is); (case k24 => k_is)
    (case a27 => k_is); (case l27 => k_is); (case c27 => k_is); (case k27 => k_is)
    (case a28 => k_is); (case l28 => k_is); (case c28 => k_is); (case k28 => k_is)
    (case a29 => k_is); (case l29 => k_is); (case c29 => k_is); (case k29 => k_is)
    (case a31 => k_is); (case l31 => k_is); (case c31 => k_is); (case k31 => k_is)
    (case a32 => k_is); (case l32 => k_is); (case c32 => k_is); (case k32 => k_is)
    (case a33 => k_is); (case l33 => k_is); (case c33 => k_is); (case k33 => k_is)
    (case a35 => k_is); (case l35 => k_is); (case c35 => k_is); (case k35 => k_is)
    (case a36 => k_is); (case l36 => k_is); (case c36 => k_is); (case k36 => k_is)
    (case a37 => k_is); (case l37 => k_is); (case c37 => k_is); (case k37 => k_is)
    (case a38 => k_is); (case l38 => k_is); (case c38 => k_is); (case k38 => k_is)
    (case a39 => k_is); (case l39 => k_is); (case c39 => k_is); (case k39 => k_is)
    (case a40 => k_is); (case l40 => k_is); (case c40 => k_is); (case k40 => k_is)
    (case a41 => k_is); (case l41 => k_is); (case c41 => k_is); (case k41 => k_is)
    (case a42 => k_is); (case l42 => k_is); (case c42 => k_is); (case k42 => k_is)
    (case a43 => k_is); (case l43 => k_is); (case c43 => k_is); (case k43 => k_is)
    (case a44 => k_is); (case l44 => k_is); (case c44 => k_is); (case k44 => k_is)
    (case a45 => k_is); (case l45 => k_is); (case c45 => k_is); (case k45 => k_is)
    (case a46 => k_is); (case l46 => k_is); (case c46 => k_is); (case k46 => k_is)
    (case a47 => k_is); (case l47 => k_is); (case c47 => k_is); (case k47 => k_is)
    (case a48 => k_is); (case l48 => k_is); (case c48 => k_is); (case k48 => k_is)
    (case tANOTHING => k_is); (case tLNOTHING => k_is); (case tCNOTHING => exact rfl); (case tENOTHING => exact rfl)
    (case tAPAIRS => k_is); (case tLPAIRS => k_is); (case tCPAIRS => exact rfl); (case tEPAIRS => exact rfl)
    (case t1PAIRS => (refine' L2.TupT.two ?l ?c ?e; (case l => k_is); (case c => exact rfl); (case e => exact rfl)))
    (case t2PAIRS => (refine' L2.TupT.two ?l ?c ?e; (case l => k_is); (case c => exact rfl); (case e => exact rfl)))
    (case t3PAIRS => (refine' L2.TupT.two ?l ?c ?e; (case l => k_is); (case c => exact rfl); (case e => exact rfl)))
    (case z0 => k_is)
    (case z1 => k_is)
    (case z2 => k_is)
    (case z3 => k_is)
    (case z4 => k_is)
    (case z5 => k_is)
    (case z6 => k_is)
    (case z7 => k_is)
    (case z8 => k_is)
#print axioms PySem.Challenge.cw_hangrings_k26_three_points_led_holds
end
