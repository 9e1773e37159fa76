import PyProof.Rows.All
import Wide.All
import OpenK.AllK
import Wide.FinOn
import Lean
import PyProof.EqAt
import PyProof.EqKinds
import PyProof.TupleCall
import KE.KUnpack
import KE.KTab
import KE.LcSums
import KE.KSortTup
import KE.KDictAny
import PyProof.WalkInts
import PyProof.MinMaxWalk
import PyProof.P3In
import PySem.Challenge.RW_hangrings_k79_whole_no_calmer_way
set_option bootstrap.genMatcherCode false
set_option linter.all false
set_option maxRecDepth 100000
set_option Elab.async false
set_option maxHeartbeats 4000000
set_option exponentiation.threshold 200000
section
namespace L2
open PySem PySem.Spec PyProof.Rows
noncomputable abbrev Key := Sum Int Str
noncomputable def keyIs : Key -> Value -> Bool
  | .inl k, v => Value.isInt k v
  | .inr x, v => Value.isStrOf x v
noncomputable def keyH (w : World) : Key -> Int
  | .inl k => hashInt k
  | .inr x => hashStr w x
theorem keyIs_shape : ∀ {k : Key} {v : Value}, keyIs k v = true -> (∃ i t, k = Sum.inl i /\ v = Value.int i t) \/ (∃ x t, k = Sum.inr x /\ v = Value.str x t)
  | .inl i, v, h => by
    obtain ⟨t, e⟩ := Value.isInt_shape (k := i) (v := v) h
    exact .inl ⟨i, t, rfl, e⟩
  | .inr x, v, h => by
    obtain ⟨t, e⟩ := Value.isStrOf_shape (x := x) (v := v) h
    exact .inr ⟨x, t, rfl, e⟩
theorem keyIs_int (i : Int) (t : Tok) : keyIs (.inl i) (.int i t) = true := by simp [keyIs, Value.isInt]
theorem keyIs_str (x : Str) (t : Tok) : keyIs (.inr x) (.str x t) = true := by simp [keyIs, Value.isStrOf]
theorem key_ll (a b : Int) : decide ((Sum.inl a : Key) = Sum.inl b) = (a == b) := by
  by_cases e : a = b
  . subst e; simp
  . have h : ¬ (Sum.inl a : Key) = Sum.inl b := fun q => e (Sum.inl.inj q)
    rw [decide_eq_false h]
    exact (beq_eq_false_iff_ne.mpr e).symm
theorem key_rr (a b : Str) : decide ((Sum.inr a : Key) = Sum.inr b) = decide (a = b) := by
  by_cases e : a = b
  . subst e; simp
  . have h : ¬ (Sum.inr a : Key) = Sum.inr b := fun q => e (Sum.inr.inj q)
    rw [decide_eq_false h, decide_eq_false e]
theorem key_lr (a : Int) (b : Str) : decide ((Sum.inl a : Key) = Sum.inr b) = false := decide_eq_false (fun q => nomatch q)
theorem key_rl (a : Str) (b : Int) : decide ((Sum.inr a : Key) = Sum.inl b) = false := decide_eq_false (fun q => nomatch q)
noncomputable def mixKind (prog : Program) (w : World) : PySem.KeyKind prog w Key where
  is := keyIs
  hash := keyH w
  inj := fun v a b ha hb => by
    rcases keyIs_shape ha with ⟨i, t, rfl, rfl⟩ | ⟨x, t, rfl, rfl⟩
    . rcases keyIs_shape hb with ⟨j, u, rfl, e⟩ | ⟨y, u, rfl, e⟩
      . injection e with e1 _; rw [e1]
      . exact nomatch e
    . rcases keyIs_shape hb with ⟨j, u, rfl, e⟩ | ⟨y, u, rfl, e⟩
      . exact nomatch e
      . injection e with e1 _; rw [e1]
  byValue := fun k v h => by
    rcases keyIs_shape h with ⟨i, t, rfl, rfl⟩ | ⟨x, t, rfl, rfl⟩ <;> rfl
  pyHash := fun hv h => by
    rcases keyIs_shape hv with ⟨i, t, rfl, rfl⟩ | ⟨x, t, rfl, rfl⟩
    . exact wpAny_pyHash_int h
    . exact wpAny_pyHash_str h
  eqBool := fun hu hv h => by
    rcases keyIs_shape hu with ⟨i, t, rfl, rfl⟩ | ⟨x, t, rfl, rfl⟩
    . rcases keyIs_shape hv with ⟨j, u, rfl, rfl⟩ | ⟨y, u, rfl, rfl⟩
      . rw [key_ll] at h; exact wpAny_eqBool_int h
      . rw [key_lr] at h; exact SeqAt.EqAt.int_str i t y u _ _ _ _ h
    . rcases keyIs_shape hv with ⟨j, u, rfl, rfl⟩ | ⟨y, u, rfl, rfl⟩
      . rw [key_rl] at h; exact SeqAt.EqAt.str_int x t j u _ _ _ _ h
      . rw [key_rr] at h; exact wpAny_eqBool_str h
  «strs» := fun k x t v h => by
    rcases keyIs_shape h with ⟨i, u, rfl, e⟩ | ⟨y, u, rfl, e⟩
    . exact nomatch e
    . injection e with e1 _
      subst e1
      cases v <;> rfl
theorem mixKind_int (prog : Program) (w : World) (i : Int) (t : Tok) : (mixKind prog w).is (.inl i) (.int i t) = true := keyIs_int i t
theorem mixKind_str (prog : Program) (w : World) (x : Str) (t : Tok) : (mixKind prog w).is (.inr x) (.str x t) = true := keyIs_str x t
end L2
namespace L2
open PySem PySem.Spec PyProof.Rows
inductive V where
  | non | bl (b : Bool) | int (i : Int) | str (x : Str) | byt (b : Array UInt8) | flt (b : UInt64) | ref (a : Addr) | ty (n : String)
  deriving DecidableEq
noncomputable def RelV : V -> Value -> Prop
  | .non, u => u = Value.none
  | .bl b, u => u = Value.bool b
  | .int i, u => ∃ t, u = Value.int i t
  | .str x, u => ∃ t, u = Value.str x t
  | .byt b, u => ∃ t, u = Value.bytes b t
  | .flt b, u => ∃ t, u = Value.float b t
  | .ref a, u => u = Value.ref a
  | .ty n, u => u = Value.type n
noncomputable abbrev Vals : List V -> List Value -> Prop := Paired RelV
theorem Vals.length {xs : List V} {us : List Value} (r : Vals xs us) : xs.length = us.length := Paired.length r
theorem Vals.get : ∀ {xs : List V} {us : List Value} {i : Nat} {x : V}, Vals xs us -> xs[i]? = some x -> ∃ u, us[i]? = some u /\ RelV x u
  | _, _, _, _, .nil, e => by simp at e
  | _, _, 0, _, .cons r _, e => by simp at e; subst e; exact ⟨_, rfl, r⟩
  | _, _, i + 1, x, .cons _ t, e => by
    obtain ⟨u, h1, h2⟩ := Vals.get (i := i) (x := x) t (by simpa using e)
    exact ⟨u, by simpa using h1, h2⟩
theorem Vals.set {x : V} {u : Value} (r : RelV x u) : ∀ {xs : List V} {us : List Value} (i : Nat), Vals xs us -> Vals (xs.set i x) (us.set i u)
  | _, _, _, .nil => .nil
  | _, _, 0, .cons _ t => .cons r t
  | _, _, i + 1, .cons q t => .cons q (Vals.set r i t)
theorem Vals.append : ∀ {xs ys : List V} {us ws : List Value}, Vals xs us -> Vals ys ws -> Vals (xs ++ ys) (us ++ ws)
  | _, _, _, _, .nil, s => s
  | _, _, _, _, .cons r t, s => .cons r (Vals.append t s)
theorem Vals.take : ∀ {xs : List V} {us : List Value} (n : Nat), Vals xs us -> Vals (xs.take n) (us.take n)
  | _, _, 0, _ => .nil
  | _, _, _ + 1, .nil => .nil
  | _, _, n + 1, .cons r t => .cons r (Vals.take n t)
theorem Vals.drop : ∀ {xs : List V} {us : List Value} (n : Nat), Vals xs us -> Vals (xs.drop n) (us.drop n)
  | _, _, 0, r => r
  | _, _, _ + 1, .nil => .nil
  | _, _, n + 1, .cons _ t => Vals.drop n t
noncomputable def RelO : Option V -> Option Value -> Prop
  | some v, some u => RelV v u
  | none, none => True
  | _, _ => False
noncomputable def KV {κ : Type} : List (κ × V) -> List (κ × Value) -> Prop := Paired fun (p : κ × V) (q : κ × Value) => p.1 = q.1 /\ RelV p.2 q.2
noncomputable def kV : Key -> V
  | .inl i => .int i
  | .inr x => .str x
inductive HO where
  | lst (xs : List V)
  | tup (xs : List V)
  | dK (kvs : List (Key × V)) | dT (kvs : List (List Key × V))
  | set (S : Int -> Bool) (n : Nat)
  | ins (C dx : Addr) (fs : List (Str × V))
  | own (x : Addr)
  | xd (fs : List (Str × V))
  | met (f x : Addr)
  | rng (lo hi : Int)
  | frz (o : Obj) (u : HO)
  | tbl (ps : Array Value)
  | ext (φ : Heap -> Prop)
noncomputable abbrev Hp := Addr -> Option HO
noncomputable def upd (H : Hp) (a : Addr) (o : HO) : Hp := fun b => if b = a then some o else H b
theorem upd_same {H : Hp} {a : Addr} {o : HO} : upd H a o a = some o := by unfold upd; rw [if_pos rfl]
theorem upd_ne {H : Hp} {a b : Addr} {o : HO} (h : b ≠ a) : upd H a o b = H b := by unfold upd; rw [if_neg h]
theorem ne_of {H : Hp} {a b : Addr} {o u : HO} (h : H a = some o) (h' : H b = some u) (d : o ≠ u) : a ≠ b := by
  intro e; subst e; rw [h] at h'; exact d (Option.some.inj h')
theorem ne_of_none {H : Hp} {a b : Addr} {o : HO} (h : H a = some o) (h' : H b = none) : a ≠ b := by
  intro e; subst e; rw [h] at h'; cases h'
section
variable (P : Program) (w : World)
noncomputable def ObjOk (H : Hp) (h : Heap) (a : Addr) : HO -> Prop
  | .lst xs => xs.length <= sizeLine /\ ∃ (its : List Value) (n : Nat), Vals xs its /\ h.get? a = some { cls := .type "list", data := .seq its.toArray n }
  | .tup xs => xs.length <= sizeLine /\ ∃ its : List Value, Vals xs its /\ IsTup h a its.toArray
  | .dK kvs => kvs.length <= sizeLine /\ (a == sysModules) = false /\ ∃ vs, KV kvs vs /\ h.DictOf (mixKind P w) a vs
  | .dT kvs => kvs.length <= sizeLine /\ (a == sysModules) = false /\ ∃ xs : List (List Key × Addr × Value),
      Paired (fun (p : List Key × V) (q : List Key × Addr × Value) => p.1 = q.1 /\ H q.2.1 = some (.tup (p.1.map kV)) /\ RelV p.2 q.2.2) kvs xs /\
      ∃ o es ep, h.get? a = some o /\ o.ExactDict /\ o.data = .dict es ep /\ es.toList = xs.map (entryOfKey (tupleKind (mixKind P w))) /\ (xs.map (·.1)).Nodup
  | .set S n => h.SetOf (intKind P w) a S n
  | .ins C dx fs => H dx = some (.own a) /\ fs.length <= 1000 /\ dx ≠ a /\ h.get? a = some (PySem.W.instObj C dx) /\
      ∃ mA, h.Ns1 dx mA /\ (∀ f, RelO (fs.lookup f) (mA f)) /\ PySem.Within mA (fs.map (·.1))
  | .own _ => ∃ o, h.get? a = some o
  | .xd fs => ∃ mA, h.Ns1 a mA /\ ∀ f, RelO (fs.lookup f) (mA f)
  | .rng lo hi => ∃ t u v, h.get? a = some { cls := .type "range", data := .fields #[.int lo t, .int hi u, .int 1 v] }
  | .frz o u => h.get? a = some o /\ ObjOk H h a u
  | .tbl ps => h.get? a = some { cls := .none, data := .fields ps }
  | .met f x => h.get? a = some (PySem.W.methodObj (.ref f) (.ref x))
  | .ext φ => φ h /\ (∃ o, h.get? a = some o) /\ ∀ h1 h2 : Heap, φ h1 -> (∀ o, h1.get? a = some o -> h2.get? a = some o) -> φ h2
noncomputable def HOk (H : Hp) (h : Heap) : Prop := ∀ a o, H a = some o -> ObjOk P w H h a o
end
section
variable {P : Program} {w : World} {H H' : Hp} {h h' : Heap} {a : Addr} {o : HO}
theorem ObjOk.lt (x : ObjOk P w H h a o) : a < h.objs.size := by
  cases o with
  | lst xs => obtain ⟨_, _, _, _, e⟩ := x; exact Heap.lt_size e
  | tup xs => obtain ⟨_, _, _, p⟩ := x; exact p.lt
  | dK kvs => obtain ⟨_, _, _, _, o, _, _, e, _⟩ := x; exact Heap.lt_size e
  | dT kvs => obtain ⟨_, _, _, _, o, _, _, e, _⟩ := x; exact Heap.lt_size e
  | set S n => obtain ⟨o, _, _, _, e, _⟩ := x; exact Heap.lt_size e
  | ins C dx fs => obtain ⟨_, _, _, e, _⟩ := x; exact Heap.lt_size e
  | own y => obtain ⟨_, e⟩ := x; exact Heap.lt_size e
  | xd fs => obtain ⟨_, ⟨_, _, _, e, _⟩, _⟩ := x; exact Heap.lt_size e
  | rng lo hi => obtain ⟨_, _, _, e⟩ := x; exact Heap.lt_size e
  | frz ob u => obtain ⟨e, _⟩ := x; exact Heap.lt_size e
  | tbl ps => exact Heap.lt_size (show h.get? a = some _ from x)
  | met f y => exact Heap.lt_size (show h.get? a = some _ from x)
  | ext φ => obtain ⟨_, ⟨_, e⟩, _⟩ := x; exact Heap.lt_size e
theorem Paired.mapP {α β : Type} {F G : α -> β -> Prop} : ∀ {l₁ : List α} {l₂ : List β}, Paired F l₁ l₂ -> (∀ a b, F a b -> G a b) -> Paired G l₁ l₂
  | _, _, .nil, _ => .nil
  | _, _, .cons r t, f => .cons (f _ _ r) (Paired.mapP t f)
theorem ObjOk.stay (x : ObjOk P w H h a o) (k : ∀ b u, (b = a \/ H b = some (.own a)) -> h.get? b = some u -> h'.get? b = some u)
    (ho : ∀ b, H b = some (.own a) -> H' b = some (.own a)) (ht : ∀ b xs, H b = some (.tup xs) -> H' b = some (.tup xs)) : ObjOk P w H' h' a o := by
  induction o with
  | lst xs => obtain ⟨z, its, n, r, e⟩ := x; exact ⟨z, its, n, r, k _ _ (.inl rfl) e⟩
  | tup xs => obtain ⟨z, its, r, ob, e, c⟩ := x; exact ⟨z, its, r, ob, k _ _ (.inl rfl) e, c⟩
  | dK kvs => obtain ⟨z, y, vs, r, ob, es, ep, e, c⟩ := x; exact ⟨z, y, vs, r, ob, es, ep, k _ _ (.inl rfl) e, c⟩
  | dT kvs =>
    obtain ⟨z, y, xs, r, ob, es, ep, e, c⟩ := x
    exact ⟨z, y, xs, Paired.mapP r fun p q z => ⟨z.1, ht _ _ z.2.1, z.2.2⟩, ob, es, ep, k _ _ (.inl rfl) e, c⟩
  | set S n => obtain ⟨ob, es, ep, t, e, c⟩ := x; exact ⟨ob, es, ep, t, k _ _ (.inl rfl) e, c⟩
  | ins C dx fs =>
    obtain ⟨d, z, ne, e, mA, ⟨od, es, ep, e2, c⟩, r⟩ := x
    exact ⟨ho _ d, z, ne, k _ _ (.inl rfl) e, mA, ⟨od, es, ep, k _ _ (.inr d) e2, c⟩, r⟩
  | own y => obtain ⟨ob, e⟩ := x; exact ⟨ob, k _ _ (.inl rfl) e⟩
  | xd fs => obtain ⟨mA, ⟨od, es, ep, e, c⟩, r⟩ := x; exact ⟨mA, ⟨od, es, ep, k _ _ (.inl rfl) e, c⟩, r⟩
  | rng lo hi => obtain ⟨t, u, v, e⟩ := x; exact ⟨t, u, v, k _ _ (.inl rfl) e⟩
  | frz ob u ih => obtain ⟨e, q⟩ := x; exact ⟨k _ _ (.inl rfl) e, ih q⟩
  | tbl ps =>
    have e : h.get? a = some { cls := .none, data := .fields ps } := x
    show h'.get? a = some { cls := .none, data := .fields ps }
    exact k a _ (.inl rfl) e
  | met f y =>
    have e : h.get? a = some (PySem.W.methodObj (.ref f) (.ref y)) := x
    show h'.get? a = some (PySem.W.methodObj (.ref f) (.ref y))
    exact k a _ (.inl rfl) e
  | ext φ => obtain ⟨p, ⟨o, e⟩, st⟩ := x; exact ⟨st _ _ p fun o q => k _ _ (.inl rfl) q, ⟨o, k _ _ (.inl rfl) e⟩, st⟩
theorem HOk.lt (x : HOk P w H h) (e : H a = some o) : a < h.objs.size := (x a o e).lt
theorem HOk.fresh (x : HOk P w H h) (e : h.objs.size <= a) : H a = none := by
  cases q : H a with
  | none => rfl
  | some u => exact absurd (Nat.lt_of_lt_of_le (x.lt q) e) (Nat.lt_irrefl _)
theorem HOk.kept (x : HOk P w H h) (k : ∀ b u, h.get? b = some u -> h'.get? b = some u) : HOk P w H h' := fun a o e =>
  (x a o e).stay (fun b u _ q => k b u q) (fun _ q => q) fun _ _ q => q
theorem HOk.laid (x : HOk P w H h) (k : ∀ b u, h.get? b = some u -> h'.get? b = some u) (hp : h.objs.size <= a) (new : ObjOk P w (upd H a o) h' a o) : HOk P w (upd H a o) h' := fun b u e => by
  have hn := x.fresh hp
  by_cases hb : b = a
  . subst hb; rw [upd_same] at e; cases e; exact new
  . rw [upd_ne hb] at e
    exact (x b u e).stay (fun c v _ q => k c v q) (fun c q => by rw [upd_ne (ne_of_none q hn)]; exact q) fun c xs q => by rw [upd_ne (ne_of_none q hn)]; exact q
end
noncomputable def Rd (H : Hp) (a : Addr) (u : HO) : Prop := H a = some u \/ ∃ o, H a = some (.frz o u)
theorem Rd.ok {P : Program} {w : World} {H : Hp} {h : Heap} {a : Addr} {u : HO} (r : Rd H a u) (x : HOk P w H h) : ObjOk P w H h a u := by
  rcases r with r | ⟨o, r⟩
  . exact x a u r
  . obtain ⟨_, q⟩ := x a _ r
    exact q
noncomputable def Mut : Option HO -> Prop
  | some (.lst _) => True
  | some (.dK _) => True
  | some (.dT _) => True
  | some (.set _ _) => True
  | some (.ins _ _ _) => True
  | some (.ext _) => True
  | _ => False
section
variable {P : Program} {w : World} {H : Hp} {h h' : Heap} {x e : Addr} {o' : HO}
theorem HOk.write (ok : HOk P w H h) (mu : Mut (H x)) (he : e = x \/ H e = some (.own x)) (k : ∀ b u, b ≠ e -> h.get? b = some u -> h'.get? b = some u) (heo : ∃ u, h'.get? e = some u)
    (new : ObjOk P w (upd H x o') h' x o') : HOk P w (upd H x o') h' := fun b u q => by
  have nown : ∀ c y, H c = some (.own y) -> c ≠ x := fun c y r z => by subst z; rw [r] at mu; exact mu
  have ntup : ∀ c xs, H c = some (.tup xs) -> c ≠ x := fun c xs r z => by subst z; rw [r] at mu; exact mu
  by_cases hb : b = x
  . subst hb; rw [upd_same] at q; cases q; exact new
  . rw [upd_ne hb] at q
    by_cases hbe : b = e
    . have q' : H b = some (.own x) := by
        rcases he with z | z
        . exact absurd (hbe.trans z) hb
        . rw [hbe]; exact z
      rw [q] at q'; cases q'
      obtain ⟨v, hv⟩ := heo
      exact ⟨v, by rw [hbe]; exact hv⟩
    . refine (ok b u q).stay (fun c v hc r => k c v ?_ r) (fun c r => by rw [upd_ne (nown c b r)]; exact r) fun c xs r => by rw [upd_ne (ntup c xs r)]; exact r
      rcases hc with rfl | hc
      . exact hbe
      . rintro rfl
        rcases he with z | z
        . exact nown c b hc z
        . rw [hc] at z; cases z; exact hb rfl
end
structure Un (fs ex : List Addr) (H H' : Hp) (h h' : Heap) : Prop where
  keep : ∀ b o, h.get? b = some o -> H b = none -> b ∉ fs -> b ∉ ex -> h'.get? b = some o
  slot : ∀ b o, h.get? b = some o -> H b = none -> b ∈ fs -> b ∉ ex -> ∃ sl, h'.get? b = some { o with slots := sl }
  free : ∀ b o, h.get? b = some o -> H b = none -> b ∉ ex -> H' b = none
  there : ∀ b o, h.get? b = some o -> b ∉ ex -> ∃ o', h'.get? b = some o'
  tups : ∀ b xs, H b = some (.tup xs) -> H' b = some (.tup xs)
  frzs : ∀ b o u, H b = some (.frz o u) -> H' b = some (.frz o u)
  tbls : ∀ b ps, H b = some (.tbl ps) -> ∃ more, H' b = some (.tbl (ps ++ more))
section
variable {fs ex : List Addr} {H H1 H2 : Hp} {h h1 h2 h' : Heap} {a x e : Addr} {o : HO}
theorem Un.any (u : Un fs ex H H1 h h1) {b : Addr} {ob : Obj} (q : h.get? b = some ob) (n : H b = none) (hx : b ∉ ex) : ∃ sl, h1.get? b = some { ob with slots := sl } := by
  by_cases hb : b ∈ fs
  . exact u.slot b ob q n hb hx
  . exact ⟨ob.slots, u.keep b ob q n hb hx⟩
theorem Un.kept (k : ∀ b u, h.get? b = some u -> h'.get? b = some u) : Un fs ex H H h h' :=
  ⟨fun b ob q _ _ _ => k b ob q, fun b ob q _ _ _ => ⟨ob.slots, k b ob q⟩, fun _ _ _ n _ => n, fun b ob q _ => ⟨ob, k b ob q⟩, fun _ _ q => q, fun _ _ _ q => q, fun _ ps q => ⟨#[], by rw [q]; simp⟩⟩
theorem Un.refl : Un fs ex H H h h := Un.kept fun _ _ q => q
theorem Un.laid (k : ∀ b u, h.get? b = some u -> h'.get? b = some u) (hp : h.objs.size <= a) (hn : H a = none) : Un fs ex H (upd H a o) h h' where
  keep := fun b u q _ _ _ => k b u q
  slot := fun b u q _ _ _ => ⟨u.slots, k b u q⟩
  free := fun b u q n _ => by rw [upd_ne (Nat.ne_of_lt (Nat.lt_of_lt_of_le (Heap.lt_size q) hp))]; exact n
  there := fun b u q _ => ⟨u, k b u q⟩
  tups := fun b xs q => by rw [upd_ne (ne_of_none q hn)]; exact q
  frzs := fun b u xs q => by rw [upd_ne (ne_of_none q hn)]; exact q
  tbls := fun b ps q => ⟨#[], by rw [upd_ne (ne_of_none q hn), q]; simp⟩
theorem Un.write (mu : Mut (H x)) (he : e = x \/ H e = some (.own x)) (k : ∀ b u, b ≠ e -> h.get? b = some u -> h'.get? b = some u) (heo : ∃ u, h'.get? e = some u) : Un fs ex H (upd H x o) h h' := by
  have hx : ∀ b, H b = none -> b ≠ x := fun b n z => by subst z; rw [n] at mu; exact mu
  have hb : ∀ b, H b = none -> b ≠ e := fun b n z => by
    subst z
    rcases he with r | r
    . exact hx b n r
    . rw [n] at r; cases r
  have hm : ∀ b u, H b = some u -> ¬ Mut (some u) -> b ≠ x := fun b u q nm z => by subst z; rw [q] at mu; exact nm mu
  refine ⟨fun b u q n _ _ => k b u (hb b n) q, fun b u q n _ _ => ⟨u.slots, k b u (hb b n) q⟩, fun b u q n _ => by rw [upd_ne (hx b n)]; exact n, fun b u q _ => ?_,
    fun b xs q => by rw [upd_ne (hm b _ q fun z => z)]; exact q, fun b u xs q => by rw [upd_ne (hm b _ q fun z => z)]; exact q, fun b ps q => ⟨#[], by rw [upd_ne (hm b _ q fun z => z), q]; simp⟩⟩
  by_cases hbe : b = e
  . subst hbe; exact heo
  . exact ⟨u, k b u hbe q⟩
end
noncomputable def trk (h : Heap) (H : Hp) : List Addr := (List.range h.objs.size).filter fun a => (H a).isSome
noncomputable def hidT (h : Heap) (H : Hp) : Heap := PySem.W.hideAll h (trk h H)
theorem hidT_size (h : Heap) (H : Hp) : (hidT h H).objs.size = h.objs.size := PySem.W.hideAll_size _ _
theorem hidT_get {h : Heap} {H : Hp} {b : Addr} {o : Obj} (e : h.get? b = some o) (n : H b = none) : (hidT h H).get? b = some o :=
  PySem.W.hideAll_get _ e fun hm => by
    have q : (H b).isSome = true := (List.mem_filter.mp hm).2
    rw [n] at q; simp at q
theorem of_hidT {h : Heap} {H : Hp} {b : Addr} {o : Obj} (e : (hidT h H).get? b = some o) : h.get? b = some o /\ H b = none := by
  have e' : h.get? b = some o := PySem.W.of_hideAll (trk h H) e
  refine ⟨e', ?_⟩
  cases q : H b with
  | none => rfl
  | some x =>
    have hm : b ∈ trk h H := List.mem_filter.mpr ⟨List.mem_range.mpr (Heap.lt_size e'), by simp [q]⟩
    have z : (hidT h H).get? b = none := PySem.W.hideAll_none (trk h H) hm
    rw [z] at e; cases e
noncomputable def allNews (g h : Heap) (L : Addr) : List (Addr × Obj) := (List.range h.objs.size).filterMap fun a => if a = L \/ (g.get? a).isSome = true then none else (h.get? a).map fun o => (a, o)
noncomputable def rest (g h : Heap) (L d : Addr) : List (Addr × Obj) := (allNews g h L).filter fun p => decide (p.1 ≠ d)
end L2
namespace L2
open PySem PySem.Spec PyProof.Rows
structure Mod (K : PySem.W.Frag) (mg : Str -> Option Value) (base : Heap) : Prop where
  kin : K.In base
  glob : base.Ns mainGlobals mg
  blt : ∃ mb, base.Ns builtinsNs mb /\ ∀ x : Str, x ≠ "__name__" -> mb x = bootBuiltins x
  nolimit : base.NoLimit
structure Cx where
  prog : Program
  w : World
  K : PySem.W.Frag
  mg : Str -> Option Value
  base : Heap
  A : Around
  N : List Str
  s₀ : Shared
  H₀ : Hp
  env : Env
  outer : List Env
  stack : List Env
  ex : List Addr
  fn : Str -> Bool
  calm : Bool
  pn : List (Addr × Obj)
  xe : Value -> Shared -> Prop
noncomputable def frs (l : List Env) : List Addr := l.filterMap (·.frame)
noncomputable abbrev Cx.fs (X : Cx) : List Addr := frs X.outer
noncomputable def Vis (sc : Scope) (x : Str) : Prop := sc.names.lookup x = some .local \/ sc.names.lookup x = some .cell \/ sc.names.lookup x = some .free
noncomputable def Loc (sc : Scope) (x : Str) : Prop := sc.names.lookup x = some .local \/ sc.names.lookup x = some .cell
noncomputable def Look (env : Env) (h : Heap) (m : Str -> Option Value) (x : Str) (u : Value) : Prop :=
  (env.kindOf x = some .local /\ m x = some u) \/ ((env.kindOf x = some .cell \/ env.kindOf x = some .free) /\ ∃ c, env.cells.lookup x = some c /\ h.IsCell c (some u))
structure Cx.Ok (X : Cx) : Prop where
  mod : Mod X.K X.mg X.base
  kind : X.env.scope.kind = .function
  glob : X.env.globals = mainGlobals
  blt : X.env.builtins = builtinsNs
  above : X.s₀.heap.objs.size <= X.env.locals
  inj : ∀ x y c, X.env.cells.lookup x = some c -> X.env.cells.lookup y = some c -> x = y
  has : ∀ x, (X.env.kindOf x = some .cell \/ X.env.kindOf x = some .free) -> ∃ c, X.env.cells.lookup x = some c
  cab : ∀ x c, X.fn x = true -> X.env.cells.lookup x = some c -> X.s₀.heap.objs.size <= c
  hd : X.calm = true -> X.A.handled = none
  frames : X.A.frames = some X.stack
  stk : X.stack = X.outer \/ (X.stack = X.env :: X.outer /\ X.env.frame = some X.env.locals)
  exf : ∀ b ∈ X.ex, b ≠ X.env.locals /\ ∀ x c, X.env.cells.lookup x = some c -> c ≠ b
  bs : ∀ b o, X.base.get? b = some o -> X.s₀.heap.get? b = some o /\ X.H₀ b = none
  bsz : X.base.objs.size <= X.s₀.heap.objs.size
  noex : ∀ b o, X.base.get? b = some o -> b ∉ X.ex
  exfs : ∀ b ∈ X.ex, b ∉ X.fs
  funs : X.s₀.heap.FunFrames X.base X.outer
  frf : ∀ b ∈ X.fs, X.H₀ b = none
structure Inv (X : Cx) (pins : List (Addr × Obj)) (σ : List (Option V)) (H : Hp) (s : Shared) : Prop where
  ok : X.Ok
  os : s.os = X.s₀.os
  bare : AllBare s.gens
  base : Un X.fs X.ex X.H₀ H X.s₀.heap s.heap
  loc : ∃ m, s.heap.Ns X.env.locals m /\ ∀ (i : Nat) (x : Str) (v : V), X.N[i]? = some x -> σ[i]? = some (some v) -> Vis X.env.scope x -> ∃ u, RelV v u /\ Look X.env s.heap m x u
  cell : ∀ x c, X.env.cells.lookup x = some c -> ∃ v, s.heap.IsCell c v
  free : H X.env.locals = none
  freeC : ∀ x c, X.env.cells.lookup x = some c -> H c = none
  pin : ∀ p ∈ X.pn ++ pins, s.heap.get? p.1 = some p.2 /\ H p.1 = none /\ p.1 ≠ X.env.locals /\ p.1 ∉ X.fs /\ ∀ v, p.2.data ≠ .cell v
  hok : HOk X.prog X.w H s.heap
  len : σ.length = X.N.length
section
variable {X : Cx} {pins : List (Addr × Obj)} {σ : List (Option V)} {H H' : Hp} {s : Shared} {h' : Heap}
theorem Cx.Ok.nofr (ok : X.Ok) {b : Addr} {o : Obj} (e : X.base.get? b = some o) : b ∉ X.fs := fun hb => by
  have := (ok.funs.mem hb).1
  rw [e] at this; cases this
theorem Inv.bs (I : Inv X pins σ H s) : ∀ b o, X.base.get? b = some o -> s.heap.get? b = some o /\ H b = none := fun b o e =>
  ⟨I.base.keep b o (I.ok.bs b o e).1 (I.ok.bs b o e).2 (I.ok.nofr e) (I.ok.noex b o e), I.base.free b o (I.ok.bs b o e).1 (I.ok.bs b o e).2 (I.ok.noex b o e)⟩
theorem Inv.bk (I : Inv X pins σ H s) : ∀ b o, X.base.get? b = some o -> s.heap.get? b = some o := fun b o e => (I.bs b o e).1
theorem Inv.mod (I : Inv X pins σ H s) : Mod X.K X.mg X.base := I.ok.mod
theorem Inv.kIn (I : Inv X pins σ H s) : X.K.In s.heap := I.ok.mod.kin.keeps I.bk
theorem Inv.fr (I : Inv X pins σ H s) : ∃ m, Fr X.base X.env.locals s.heap m :=
  let ⟨m, hn, _⟩ := I.loc
  ⟨m, hn, I.bk, Nat.le_trans I.ok.bsz I.ok.above⟩
theorem Inv.lt (I : Inv X pins σ H s) : X.env.locals < s.heap.objs.size := let ⟨_, hn, _⟩ := I.loc; hn.lt
theorem Inv.sz (I : Inv X pins σ H s) : X.s₀.heap.objs.size <= s.heap.objs.size := Nat.le_trans I.ok.above (Nat.le_of_lt I.lt)
theorem Inv.nofs (I : Inv X pins σ H s) {a : Addr} (h : s.heap.objs.size <= a) : a ∉ X.fs := fun hb => by
  obtain ⟨_, o, ho, _⟩ := I.ok.funs.mem hb
  exact absurd (Nat.lt_of_lt_of_le (Heap.lt_size ho) (Nat.le_trans I.sz h)) (Nat.lt_irrefl _)
theorem Inv.cne (I : Inv X pins σ H s) : ∀ x c, X.env.cells.lookup x = some c -> c ≠ X.env.locals := fun x c e z => by
  obtain ⟨v, o, ho, hd⟩ := I.cell x c e
  obtain ⟨m, ⟨o', es, ep, ho', hd', _⟩, _⟩ := I.loc
  rw [z, ho'] at ho; cases ho; rw [hd'] at hd; cases hd
theorem Inv.funs (I : Inv X pins σ H s) : s.heap.FunFrames X.base X.outer := by
  have all : ∀ (l : List Env), (∀ b ∈ frs l, b ∈ X.fs) -> X.s₀.heap.FunFrames X.base l -> s.heap.FunFrames X.base l := by
    intro l
    induction l with
    | nil => intro _ _; trivial
    | cons env r ih =>
      intro hs hl
      obtain ⟨hk, ⟨L, o, hf, hn, ho, hd⟩, hr⟩ := hl
      have hL : L ∈ X.fs := hs L (by unfold frs; rw [List.filterMap_cons, hf]; exact List.mem_cons_self)
      obtain ⟨sl, e⟩ := I.base.slot L o ho (I.ok.frf L hL) hL fun z => I.ok.exfs L z hL
      exact ⟨hk, ⟨L, _, hf, hn, e, hd⟩, ih (fun b hb => hs b (by unfold frs; rw [List.filterMap_cons, hf]; exact List.mem_cons_of_mem _ hb)) hr⟩
  exact all X.outer (fun _ hb => hb) I.ok.funs
theorem Inv.stack (I : Inv X pins σ H s) : s.heap.FunFrames X.base X.stack := by
  rcases I.ok.stk with e | ⟨e, hf⟩
  . rw [e]; exact I.funs
  . rw [e]
    obtain ⟨m, hn, _⟩ := I.loc
    refine .cons (by rw [I.ok.kind]; decide) hf hn ?_ I.funs
    exact Heap.get?_none_of_le (Nat.le_trans I.ok.bsz I.ok.above)
theorem Inv.stkSub (I : Inv X pins σ H s) : ∀ b ∈ frs X.stack, b ∈ X.env.locals :: X.fs := fun b hb => by
  rcases I.ok.stk with e | ⟨e, hf⟩
  . rw [e] at hb; exact List.mem_cons_of_mem _ hb
  . rw [e] at hb
    unfold frs at hb
    rw [List.filterMap_cons, hf] at hb
    exact hb
theorem Inv.stkFree (I : Inv X pins σ H s) : ∀ b ∈ frs X.stack, H b = none := fun b hb => by
  rcases List.mem_cons.mp (I.stkSub b hb) with e | hb
  . rw [e]; exact I.free
  . obtain ⟨_, o, ho, _⟩ := I.ok.funs.mem hb
    exact I.base.free b o ho (I.ok.frf b hb) fun z => I.ok.exfs b z hb
theorem Inv.step {g' : Array GenState} {t' : Nat} {d' : Drawn} {ch : List Addr} (I : Inv X pins σ H s)
    (hch : ∀ b ∈ ch, (b ∈ X.ex \/ X.s₀.heap.objs.size <= b) /\ b ≠ X.env.locals /\ (∀ x c, X.env.cells.lookup x = some c -> c ≠ b) /\ ∀ p ∈ X.pn ++ pins, p.1 ≠ b)
    (keep : ∀ b o, b ≠ X.env.locals -> b ∉ X.fs -> b ∉ ch -> s.heap.get? b = some o -> H b = none -> h'.get? b = some o)
    (slot : ∀ b o, b ≠ X.env.locals -> b ∈ X.fs -> b ∉ ch -> s.heap.get? b = some o -> H b = none -> ∃ sl, h'.get? b = some { o with slots := sl }) (free : ∀ b o, b ∉ ch -> s.heap.get? b = some o -> H b = none -> H' b = none)
    (there : ∀ b o, b ∉ ch -> s.heap.get? b = some o -> ∃ o', h'.get? b = some o')
    (tups : ∀ b xs, H b = some (.tup xs) -> H' b = some (.tup xs)) (frzs : ∀ b o u, H b = some (.frz o u) -> H' b = some (.frz o u)) (tbls : ∀ b ps, H b = some (.tbl ps) -> ∃ more, H' b = some (.tbl (ps ++ more)))
    (ns : ∀ m, s.heap.Ns X.env.locals m -> h'.Ns X.env.locals m) (hok : HOk X.prog X.w H' h') (hg : AllBare g') :
    Inv X pins σ H' { s with heap := h', gens := g', drawn := d', toks := t' } := by
  have neL : ∀ b o, X.s₀.heap.get? b = some o -> b ≠ X.env.locals := fun b o e => Nat.ne_of_lt (Nat.lt_of_lt_of_le (Heap.lt_size e) I.ok.above)
  have neC : ∀ b o, X.s₀.heap.get? b = some o -> b ∉ X.ex -> b ∉ ch := fun b o e hx hb => by
    rcases (hch b hb).1 with z | z
    . exact hx z
    . exact absurd (Nat.lt_of_lt_of_le (Heap.lt_size e) z) (Nat.lt_irrefl _)
  have cellK : ∀ x c, X.env.cells.lookup x = some c -> ∀ v, s.heap.IsCell c v -> h'.IsCell c v := fun x c e v ⟨o, ho, hd⟩ => by
    have nch : c ∉ ch := fun z => (hch c z).2.2.1 x c e rfl
    by_cases hc : c ∈ X.fs
    . obtain ⟨sl, q⟩ := slot c o (I.cne x c e) hc nch ho (I.freeC x c e)
      exact ⟨_, q, hd⟩
    . exact ⟨o, keep c o (I.cne x c e) hc nch ho (I.freeC x c e), hd⟩
  refine ⟨I.ok, I.os, hg, ⟨fun b o e n hb hx => ?_, fun b o e n hb hx => ?_, fun b o e n hx => ?_, fun b o e hx => ?_, fun b xs e => tups b xs (I.base.tups b xs e), fun b o xs e => frzs b o xs (I.base.frzs b o xs e), fun b ps e => ?_⟩, ?_, fun x c e => ?_, ?_, fun x c e => ?_, fun p hp => ?_, hok, I.len⟩
  . exact keep b o (neL b o e) hb (neC b o e hx) (I.base.keep b o e n hb hx) (I.base.free b o e n hx)
  . obtain ⟨sl, e1⟩ := I.base.slot b o e n hb hx
    obtain ⟨sl', e2⟩ := slot b _ (neL b o e) hb (neC b o e hx) e1 (I.base.free b o e n hx)
    exact ⟨sl', e2⟩
  . obtain ⟨o', e1⟩ := I.base.there b o e hx
    exact free b o' (neC b o e hx) e1 (I.base.free b o e n hx)
  . obtain ⟨o', e1⟩ := I.base.there b o e hx
    exact there b o' (neC b o e hx) e1
  . obtain ⟨m1, e1⟩ := I.base.tbls b ps e
    obtain ⟨m2, e2⟩ := tbls b _ e1
    exact ⟨m1 ++ m2, by rw [e2, Array.append_assoc]⟩
  . obtain ⟨m, hn, hl⟩ := I.loc
    refine ⟨m, ns m hn, fun i x v e1 e2 e3 => ?_⟩
    obtain ⟨u, r, l⟩ := hl i x v e1 e2 e3
    refine ⟨u, r, ?_⟩
    rcases l with l | ⟨k, c, e, z⟩
    . exact .inl l
    . exact .inr ⟨k, c, e, cellK x c e _ z⟩
  . obtain ⟨v, z⟩ := I.cell x c e
    exact ⟨v, cellK x c e v z⟩
  . obtain ⟨m, ⟨o, _, _, ho, _⟩, _⟩ := I.loc
    exact free _ o (fun z => (hch _ z).2.1 rfl) ho I.free
  . obtain ⟨v, o, ho, hd⟩ := I.cell x c e
    exact free c o (fun z => (hch c z).2.2.1 x c e rfl) ho (I.freeC x c e)
  . obtain ⟨e, n, ne, nf, d⟩ := I.pin p hp
    have nch : p.1 ∉ ch := fun z => (hch p.1 z).2.2.2 p hp rfl
    exact ⟨keep p.1 p.2 ne nf nch e n, free p.1 p.2 nch e n, ne, nf, d⟩
theorem Inv.un {t' : Nat} (I : Inv X pins σ H s) (u : Un X.fs [] H H' s.heap h') (hok : HOk X.prog X.w H' h') : Inv X pins σ H' { s with heap := h', toks := t' } := by
  obtain ⟨m, ⟨o, es, ep, ho, r⟩, _⟩ := id I.loc
  obtain ⟨sl, hL⟩ := u.any ho I.free (by simp)
  exact I.step (g' := s.gens) (d' := s.drawn) (ch := []) (fun _ z => nomatch z) (fun b o _ hb _ e n => u.keep b o e n hb (by simp)) (fun b o _ hb _ e n => u.slot b o e n hb (by simp)) (fun b o _ e n => u.free b o e n (by simp)) (fun b o _ e => u.there b o e (by simp)) u.tups u.frzs u.tbls (fun m' hm => by
    obtain ⟨o', es', ep', ho', r'⟩ := hm
    rw [ho] at ho'; cases ho'
    exact ⟨_, es', ep', hL, r'⟩) hok I.bare
theorem Inv.call {g' : Array GenState} {t' : Nat} {d' : Drawn} {ch : List Addr} (I : Inv X pins σ H s) (u : Un (frs X.stack) ch H H' s.heap h') (hok : HOk X.prog X.w H' h') (hg : AllBare g')
    (hch : ∀ b ∈ ch, (b ∈ X.ex \/ X.s₀.heap.objs.size <= b) /\ b ≠ X.env.locals /\ (∀ x c, X.env.cells.lookup x = some c -> c ≠ b) /\ ∀ p ∈ X.pn ++ pins, p.1 ≠ b) :
    Inv X pins σ H' { s with heap := h', gens := g', drawn := d', toks := t' } := by
  obtain ⟨m, ⟨o, es, ep, ho, r⟩, _⟩ := id I.loc
  obtain ⟨sl, hL⟩ := u.any ho I.free fun z => (hch _ z).2.1 rfl
  exact I.step (ch := ch) hch (fun b o hL hb hc e n => u.keep b o e n (fun z => (List.mem_cons.mp (I.stkSub b z)).elim hL hb) hc) (fun b o _ _ hc e n => u.any e n hc) (fun b o hc e n => u.free b o e n hc) (fun b o hc e => u.there b o e hc) u.tups u.frzs u.tbls (fun m' hm => by
    obtain ⟨o', es', ep', ho', r'⟩ := hm
    rw [ho] at ho'; cases ho'
    exact ⟨_, es', ep', hL, r'⟩) hok hg
theorem Inv.turned {t' : Nat} {it : Addr} (I : Inv X pins σ H s) (k : ∀ b o, b ≠ it -> s.heap.get? b = some o -> h'.get? b = some o) (hn : H it = none) (hL : it ≠ X.env.locals)
    (h1 : it ∈ X.ex \/ X.s₀.heap.objs.size <= it) (h2 : ∀ x c, X.env.cells.lookup x = some c -> c ≠ it) (h3 : ∀ p ∈ X.pn ++ pins, p.1 ≠ it) : Inv X pins σ H { s with heap := h', toks := t' } := by
  have nit : ∀ b u, H b = some u -> b ≠ it := fun b u e z => by rw [z, hn] at e; cases e
  refine I.step (g' := s.gens) (d' := s.drawn) (ch := [it]) (fun b hb => ?_) (fun b o _ _ hc e _ => k b o (fun z => hc (by simp [z])) e) (fun b o _ _ hc e _ => ⟨o.slots, k b o (fun z => hc (by simp [z])) e⟩) (fun _ _ _ _ n => n)
    (fun b o hc e => ⟨o, k b o (fun z => hc (by simp [z])) e⟩) (fun _ _ e => e) (fun _ _ _ e => e) (fun b ps e => ⟨#[], by rw [e]; simp⟩) (fun m hm => ?_) (fun b u e => ?_) I.bare
  . have e : b = it := by simpa using hb
    subst e
    exact ⟨h1, hL, h2, h3⟩
  . obtain ⟨o, es, ep, ho, r⟩ := hm
    exact ⟨o, es, ep, k _ o (Ne.symm hL) ho, r⟩
  . refine (I.hok b u e).stay (fun c v hc q => k c v ?_ q) (fun _ q => q) fun _ _ q => q
    rcases hc with z | z
    . rw [z]; exact nit b u e
    . exact nit c _ z
theorem Inv.tok (I : Inv X pins σ H s) (t : Nat) : Inv X pins σ H { s with toks := t } := I.un (h' := s.heap) (t' := t) Un.refl I.hok
theorem Inv.kept {t' : Nat} (I : Inv X pins σ H s) (k : ∀ b u, s.heap.get? b = some u -> h'.get? b = some u) : Inv X pins σ H { s with heap := h', toks := t' } := I.un (Un.kept k) (I.hok.kept k)
theorem Inv.laid {a : Addr} {o : HO} {t' : Nat} (I : Inv X pins σ H s) (k : ∀ b u, s.heap.get? b = some u -> h'.get? b = some u) (hp : s.heap.objs.size <= a) (new : ObjOk X.prog X.w (upd H a o) h' a o) :
    Inv X pins σ (upd H a o) { s with heap := h', toks := t' } := I.un (Un.laid k hp (I.hok.fresh hp)) (I.hok.laid k hp new)
theorem Inv.write {x e : Addr} {o : HO} {t' : Nat} (I : Inv X pins σ H s) (mu : Mut (H x)) (he : e = x \/ H e = some (.own x)) (k : ∀ b u, b ≠ e -> s.heap.get? b = some u -> h'.get? b = some u) (heo : ∃ u, h'.get? e = some u)
    (new : ObjOk X.prog X.w (upd H x o) h' x o) : Inv X pins σ (upd H x o) { s with heap := h', toks := t' } := I.un (Un.write mu he k heo) (I.hok.write mu he k heo new)
theorem Inv.pins_of {pins' : List (Addr × Obj)} (I : Inv X pins σ H s) (h : ∀ p ∈ pins', s.heap.get? p.1 = some p.2 /\ H p.1 = none /\ p.1 ≠ X.env.locals /\ p.1 ∉ X.fs /\ ∀ v, p.2.data ≠ .cell v) : Inv X pins' σ H s :=
  ⟨I.ok, I.os, I.bare, I.base, I.loc, I.cell, I.free, I.freeC, fun p hp => (List.mem_append.mp hp).elim (fun z => I.pin p (List.mem_append_left _ z)) (h p), I.hok, I.len⟩
theorem nodup_ix {N : List Str} (hN : N.Nodup) {i j : Nat} {x : Str} (a : N[i]? = some x) (b : N[j]? = some x) : i = j := by
  obtain ⟨h1, e1⟩ := List.getElem?_eq_some_iff.mp a
  obtain ⟨h2, e2⟩ := List.getElem?_eq_some_iff.mp b
  exact (List.getElem_inj hN).mp (e1.trans e2.symm)
theorem store_ok2 {M : Model} {A : Around} {E : Value -> Shared -> Prop} {i : Nat} {x : Str} {v : V} {u : Value} {Q : Unit -> Shared -> Prop} (I : Inv X pins σ H s) (hN : X.N.Nodup) (hi : X.N[i]? = some x) (hx : Loc X.env.scope x) (r : RelV v u)
    (h : ∀ s', Inv X pins (σ.set i (some v)) H s' -> (∃ a, Heap.SameBut a s.heap s'.heap /\ (a = X.env.locals \/ X.env.cells.lookup x = some a)) -> Q () s') (hf : X.fn x = true \/ X.env.scope.names.lookup x = some .local := by first | exact .inl rfl | exact .inr rfl | assumption) : wpAny M A (storeName X.env x u) Q E s := by
  obtain ⟨m, hn, hl⟩ := id I.loc
  have hcls : (X.env.scope.kind == .class || (X.env.scope.kind == .module && X.env.locals != X.env.globals)) = false := by rw [I.ok.kind]; rfl
  have hiσ : i < σ.length := by rw [I.len]; exact (List.getElem?_eq_some_iff.mp hi).1
  have cne := I.cne
  have tracked : ∀ {a : Addr} {h' : Heap}, (∃ o, s.heap.get? a = some o /\ H a = none) -> Heap.SameBut a s.heap h' -> HOk X.prog X.w H h' := fun {a h'} ha hs b ob e => by
    obtain ⟨_, _, hfree⟩ := ha
    refine (I.hok b ob e).stay (fun c w' hc q => (hs.2 c ?_).trans q) (fun _ q => q) fun _ _ q => q
    rintro rfl
    rcases hc with rfl | hc
    . rw [hfree] at e; cases e
    . rw [hfree] at hc; cases hc
  rcases hx with hk | hk
  . refine wpAny_storeName_local hk hn (fun h' hn' hs => ?_) hcls
    obtain ⟨oL, _, _, hoL, _⟩ := id hn
    refine h _ ⟨I.ok, I.os, I.bare, ⟨fun b o e n hb hx => ?_, fun b o e n hb hx => ?_, I.base.free, fun b o e hx => ?_, I.base.tups, I.base.frzs, I.base.tbls⟩, ⟨_, hn', fun j y v' e1 e2 e3 => ?_⟩, fun y c e => ?_, I.free, I.freeC, fun p hp => ?_, tracked ⟨oL, hoL, I.free⟩ hs, by simpa using I.len⟩ ⟨_, hs, .inl rfl⟩
    . exact (hs.2 b (Nat.ne_of_lt (Nat.lt_of_lt_of_le (Heap.lt_size e) I.ok.above))).trans (I.base.keep b o e n hb hx)
    . obtain ⟨sl, e1⟩ := I.base.slot b o e n hb hx
      exact ⟨sl, (hs.2 b (Nat.ne_of_lt (Nat.lt_of_lt_of_le (Heap.lt_size e) I.ok.above))).trans e1⟩
    . obtain ⟨o', e1⟩ := I.base.there b o e hx
      exact ⟨o', (hs.2 b (Nat.ne_of_lt (Nat.lt_of_lt_of_le (Heap.lt_size e) I.ok.above))).trans e1⟩
    . by_cases hj : j = i
      . subst hj
        rw [hi] at e1; cases e1
        rw [List.getElem?_set_self hiσ] at e2
        cases e2
        exact ⟨u, r, .inl ⟨hk, by simp⟩⟩
      . rw [List.getElem?_set_ne (Ne.symm hj)] at e2
        obtain ⟨u', r', q⟩ := hl j y v' e1 e2 e3
        refine ⟨u', r', ?_⟩
        rcases q with ⟨k, e⟩ | ⟨k, c, e, z⟩
        . refine .inl ⟨k, ?_⟩
          have : y ≠ x := fun e => hj (nodup_ix hN e1 (e ▸ hi))
          simp [this, e]
        . exact .inr ⟨k, c, e, z.sameBut hs (cne y c e)⟩
    . obtain ⟨w', z⟩ := I.cell y c e
      exact ⟨w', z.sameBut hs (cne y c e)⟩
    . obtain ⟨e, n, ne, nf, d⟩ := I.pin p hp
      exact ⟨(hs.2 p.1 ne).trans e, n, ne, nf, d⟩
  . have hfn : X.fn x = true := by
      rcases hf with z | z
      . exact z
      . rw [z] at hk; cases hk
    obtain ⟨c, hc⟩ := I.ok.has x (.inl hk)
    obtain ⟨w', z⟩ := I.cell x c hc
    refine wpAny_storeName_cell I.ok.kind hk hc z (fun h' hc' hs => ?_)
    obtain ⟨oc, hoc, hocd⟩ := id z
    refine h { s with heap := h' } ⟨I.ok, I.os, I.bare, ⟨fun b o e n hb hx => ?_, fun b o e n hb hx => ?_, I.base.free, fun b o e hx => ?_, I.base.tups, I.base.frzs, I.base.tbls⟩, ⟨m, hn.sameBut hs (Ne.symm (cne x c hc)), fun j y v' e1 e2 e3 => ?_⟩, fun y c' e => ?_, I.free, I.freeC, fun p hp => ?_, tracked ⟨oc, hoc, I.freeC x c hc⟩ hs, by simpa using I.len⟩ ⟨c, hs, .inr hc⟩
    . exact (hs.2 b (Nat.ne_of_lt (Nat.lt_of_lt_of_le (Heap.lt_size e) (I.ok.cab x c hfn hc)))).trans (I.base.keep b o e n hb hx)
    . obtain ⟨sl, e1⟩ := I.base.slot b o e n hb hx
      exact ⟨sl, (hs.2 b (Nat.ne_of_lt (Nat.lt_of_lt_of_le (Heap.lt_size e) (I.ok.cab x c hfn hc)))).trans e1⟩
    . obtain ⟨o', e1⟩ := I.base.there b o e hx
      exact ⟨o', (hs.2 b (Nat.ne_of_lt (Nat.lt_of_lt_of_le (Heap.lt_size e) (I.ok.cab x c hfn hc)))).trans e1⟩
    . by_cases hj : j = i
      . subst hj
        rw [hi] at e1; cases e1
        rw [List.getElem?_set_self hiσ] at e2
        cases e2
        exact ⟨u, r, .inr ⟨.inl hk, c, hc, hc'⟩⟩
      . rw [List.getElem?_set_ne (Ne.symm hj)] at e2
        obtain ⟨u', r', q⟩ := hl j y v' e1 e2 e3
        refine ⟨u', r', ?_⟩
        rcases q with q | ⟨k, c', e, z'⟩
        . exact .inl q
        . refine .inr ⟨k, c', e, z'.sameBut hs ?_⟩
          rintro rfl
          exact hj (nodup_ix hN e1 (I.ok.inj _ _ _ e hc ▸ hi))
    . by_cases hcc : c' = c
      . subst hcc; exact ⟨_, hc'⟩
      . obtain ⟨w2, z2⟩ := I.cell y c' e
        exact ⟨w2, z2.sameBut hs hcc⟩
    . obtain ⟨e, n, ne, nf, d⟩ := I.pin p hp
      refine ⟨(hs.2 p.1 ?_).trans e, n, ne, nf, d⟩
      intro q
      rw [q, hoc] at e
      have q' : oc = p.2 := Option.some.inj e
      exact d w' (by rw [<- q']; exact hocd)
theorem store_ok {M : Model} {A : Around} {E : Value -> Shared -> Prop} {i : Nat} {x : Str} {v : V} {u : Value} {Q : Unit -> Shared -> Prop} (I : Inv X pins σ H s) (hN : X.N.Nodup) (hi : X.N[i]? = some x) (hx : Loc X.env.scope x) (r : RelV v u)
    (h : ∀ s', Inv X pins (σ.set i (some v)) H s' -> Q () s') (hf : X.fn x = true \/ X.env.scope.names.lookup x = some .local := by first | exact .inl rfl | exact .inr rfl | assumption) : wpAny M A (storeName X.env x u) Q E s :=
  store_ok2 I hN hi hx r (fun s' I' _ => h s' I') hf
theorem Inv.call' {s' : Shared} {ch : List Addr} (I : Inv X pins σ H s) (ho : s'.os = s.os) (u : Un (frs X.stack) ch H H' s.heap s'.heap) (hok : HOk X.prog X.w H' s'.heap) (hg : AllBare s'.gens)
    (hch : ∀ b ∈ ch, (b ∈ X.ex \/ X.s₀.heap.objs.size <= b) /\ b ≠ X.env.locals /\ (∀ x c, X.env.cells.lookup x = some c -> c ≠ b) /\ ∀ p ∈ X.pn ++ pins, p.1 ≠ b) : Inv X pins σ H' s' := by
  obtain ⟨h', g', d', t', o'⟩ := s'
  have e : o' = s.os := ho
  subst e
  exact I.call (g' := g') (t' := t') (d' := d') u hok hg hch
end
noncomputable abbrev XK := Value -> Option Addr -> Hp -> Prop
noncomputable abbrev St := List (Option V)
noncomputable abbrev VK := V -> Hp -> Prop
noncomputable abbrev TE := St -> Hp -> VK -> Prop
noncomputable abbrev TT := St -> Hp -> (Bool -> Hp -> Prop) -> Prop
noncomputable abbrev TA := St -> Hp -> (List V -> Hp -> Prop) -> Prop
structure Ends where
  nx : St -> Hp -> Prop
  rt : VK
  bk : St -> Hp -> Prop := fun _ _ => False
  ct : St -> Hp -> Prop := fun _ _ => False
noncomputable abbrev TS := Ends -> St -> Hp -> Prop
noncomputable def EP (X : Cx) (pins : List (Addr × Obj)) (σ : St) (Q : VK) (u : Value) (s' : Shared) : Prop := ∃ v H', Inv X pins σ H' s' /\ RelV v u /\ Q v H'
noncomputable def TP (X : Cx) (pins : List (Addr × Obj)) (σ : St) (Q : Bool -> Hp -> Prop) (b : Bool) (s' : Shared) : Prop := ∃ H', Inv X pins σ H' s' /\ Q b H'
noncomputable def AP (X : Cx) (pins : List (Addr × Obj)) (σ : St) (Q : List V -> Hp -> Prop) (us : List Value) (s' : Shared) : Prop := ∃ vs H', Inv X pins σ H' s' /\ Vals vs us /\ Q vs H'
noncomputable def SP (X : Cx) (pins : List (Addr × Obj)) (D : Ends) (f : Flow) (s' : Shared) : Prop :=
  match f with
  | .next => ∃ σ' H', Inv X pins σ' H' s' /\ D.nx σ' H'
  | .brk => ∃ σ' H', Inv X pins σ' H' s' /\ D.bk σ' H'
  | .cont => ∃ σ' H', Inv X pins σ' H' s' /\ D.ct σ' H'
  | .ret u => ∃ v σ' H', Inv X pins σ' H' s' /\ RelV v u /\ D.rt v H'
noncomputable def PE (X : Cx) (e : Expr) (t : TE) : Prop :=
  ∀ (pins : List (Addr × Obj)) (s : Shared) (σ : St) (H : Hp) (Q : VK), Inv X pins σ H s -> t σ H Q -> wpAny (model X.prog X.w) X.A (eval e X.env) (EP X pins σ Q) X.xe s
noncomputable def PT (X : Cx) (e : Expr) (t : TT) : Prop :=
  ∀ (pins : List (Addr × Obj)) (s : Shared) (σ : St) (H : Hp) (Q : Bool -> Hp -> Prop), Inv X pins σ H s -> t σ H Q -> wpAny (model X.prog X.w) X.A (isTrue e X.env (eval e X.env)) (TP X pins σ Q) X.xe s
noncomputable def PW (X : Cx) (e : Expr) (t : TT) : Prop :=
  ∀ (whole : Sem Value) (pins : List (Addr × Obj)) (s : Shared) (σ : St) (H : Hp) (Q : Bool -> Hp -> Prop), Inv X pins σ H s -> t σ H Q -> wpAny (model X.prog X.w) X.A (isTrue e X.env whole) (TP X pins σ Q) X.xe s
theorem PW.pt {X : Cx} {e : Expr} {t : TT} (h : PW X e t) : PT X e t := h _
noncomputable def PA (X : Cx) (es : List Expr) (t : TA) : Prop :=
  ∀ (pos : Pos) (pins : List (Addr × Obj)) (s : Shared) (σ : St) (H : Hp) (Q : List V -> Hp -> Prop), Inv X pins σ H s -> t σ H Q -> wpAny (model X.prog X.w) X.A (spliced (backTo pos (starEach es X.env))) (AP X pins σ Q) X.xe s
noncomputable def PS (X : Cx) (st : Stmt) (t : TS) : Prop :=
  ∀ (pins : List (Addr × Obj)) (s : Shared) (σ : St) (H : Hp) (D : Ends), Inv X pins σ H s -> t D σ H -> wpAny (model X.prog X.w) X.A (exec st X.env) (SP X pins D) X.xe s
noncomputable def PSs (X : Cx) (st : List Stmt) (t : TS) : Prop :=
  ∀ (pins : List (Addr × Obj)) (s : Shared) (σ : St) (H : Hp) (D : Ends), Inv X pins σ H s -> t D σ H -> wpAny (model X.prog X.w) X.A (execs st X.env) (SP X pins D) X.xe s
theorem thn {α : Type} {t : Sem α} {Q Q' : α -> Shared -> Prop} {M : Model} {A : Around} {E : Value -> Shared -> Prop} {s : Shared} (h : wpAny M A t Q E s) (hQ : ∀ a s, Q a s -> Q' a s) : wpAny M A t Q' E s := wpAny_mono h hQ fun _ _ x => x
end L2
namespace L2
open PySem PySem.Spec PyProof.Rows
section
variable {X : Cx}
theorem bin {a b : Expr} {ta tb : TE} (ha : PE X a ta) (hb : PE X b tb) {pins : List (Addr × Obj)} {s : Shared} {σ : St} {H : Hp} {R : V -> V -> Hp -> Prop} (I : Inv X pins σ H s) (h : ta σ H fun x H1 => tb σ H1 fun y H2 => R x y H2)
    {α : Type} {Q : α -> Shared -> Prop} {f : Value -> Value -> Sem α}
    (hf : ∀ v u s2 x y H2, Inv X pins σ H2 s2 -> RelV x v -> RelV y u -> R x y H2 -> wpAny (model X.prog X.w) X.A (f v u) Q X.xe s2) :
    wpAny (model X.prog X.w) X.A (eval a X.env) (fun v s₁ => wpAny (model X.prog X.w) X.A (eval b X.env) (fun u s₂ => wpAny (model X.prog X.w) X.A (f v u) Q X.xe s₂) X.xe s₁) X.xe s := by
  refine thn (ha pins s σ H _ I h) fun v s1 ⟨x, H1, I1, r1, q1⟩ => ?_
  refine thn (hb pins s1 σ H1 _ I1 q1) fun u s2 ⟨y, H2, I2, r2, q2⟩ => ?_
  exact hf v u s2 x y H2 I2 r1 r2 q2
noncomputable def tVar (i : Nat) : TE := fun σ H Q => ∃ v, σ[i]? = some (some v) /\ Q v H
noncomputable def tC (v : V) : TE := fun _ H Q => Q v H
theorem pe_var {i : Nat} {x : Str} {pos : Pos} (hN : X.N[i]? = some x) (hv : Vis X.env.scope x) (hd : (x == ("__debug__" : Str)) = false := by decide) (hcd : (x == ("__classdict__" : Str)) = false := by decide) : PE X (.Name x pos) (tVar i) := by
  intro pins s σ H Q I h
  obtain ⟨v, e, h⟩ := h
  obtain ⟨m, hn, hl⟩ := I.loc
  obtain ⟨u, r, l⟩ := hl i x v hN e hv
  have fin : EP X pins σ Q u s := ⟨v, H, I, r, h⟩
  rcases l with ⟨hk, hm⟩ | ⟨hk, c, hc, hcell⟩
  . exact wpAny_Name (wpAny_loadName_local I.ok.kind hk hn hm fin) hd
  . rcases hk with hk | hk
    . exact wpAny_Name (wpAny_loadName_cell I.ok.kind hk hc hcell fin) hd
    . exact wpAny_Name (wpAny_loadName_free I.ok.kind hk hc hcell fin hcd) hd
theorem pe_int {i j pos} : PE X (.Constant (.int i) j pos) (tC (.int i)) := fun _ _ _ H _ I h => wpAny_Constant_int ⟨.int i, H, I.tok _, ⟨_, rfl⟩, h⟩
theorem pe_bl {b j pos} : PE X (.Constant (.bool b) j pos) (tC (.bl b)) := fun _ _ _ H _ I h => Constant_bool ⟨.bl b, H, I, rfl, h⟩
theorem pe_non {j pos} : PE X (.Constant .none j pos) (tC .non) := fun _ _ _ H _ I h => Constant_none ⟨.non, H, I, rfl, h⟩
noncomputable def Gl (X : Cx) (x : Str) : Prop := X.env.kindOf x = some .globalImplicit
theorem ld_glob {E : Value -> Shared -> Prop} {pins : List (Addr × Obj)} {s : Shared} {σ : St} {H : Hp} {x : Str} {u : Value} {pos : Pos} {Q : Value -> Shared -> Prop} (I : Inv X pins σ H s) (hg : Gl X x) (hm : X.mg x = some u) (h : Q u s)
    (hd : (x == ("__debug__" : Str)) = false := by decide) : wpAny (model X.prog X.w) X.A (eval (.Name x pos) X.env) Q E s :=
  Calls.Name_function_global I.ok.kind hg (Calls.loadGlobal_global (by rw [I.ok.glob]; exact I.mod.glob.keeps I.bk) hm h) hd
theorem ld_blt {E : Value -> Shared -> Prop} {pins : List (Addr × Obj)} {s : Shared} {σ : St} {H : Hp} {x : Str} {u : Value} {pos : Pos} {Q : Value -> Shared -> Prop} (I : Inv X pins σ H s) (hg : Gl X x) (hm : X.mg x = none) (hv : bootBuiltins x = some u) (h : Q u s)
    (hn : x ≠ "__name__" := by decide) (hd : (x == ("__debug__" : Str)) = false := by decide) : wpAny (model X.prog X.w) X.A (eval (.Name x pos) X.env) Q E s := by
  obtain ⟨mb, h1, h2⟩ := I.mod.blt
  exact Calls.Name_function_global I.ok.kind hg (Calls.loadGlobal_builtin (by rw [I.ok.glob]; exact I.mod.glob.keeps I.bk) hm (by rw [I.ok.blt]; exact h1.keeps I.bk) ((h2 x hn).trans hv) h) hd
variable {a b : Expr} {ta tb : TE} {pos : Pos}
noncomputable def PC (X : Cx) (op : CmpOp) (a b : Expr) (t : TE) : Prop :=
  ∀ (pins : List (Addr × Obj)) (s : Shared) (σ : St) (H : Hp) (Q : VK), Inv X pins σ H s -> t σ H Q ->
    wpAny (model X.prog X.w) X.A (eval a X.env) (fun v s₁ => wpAny (model X.prog X.w) X.A (eval b X.env) (fun u s₂ => wpAny (model X.prog X.w) X.A (compareOp op v u) (EP X pins σ Q) X.xe s₂) X.xe s₁) X.xe s
noncomputable def tB (t : TE) : TT := fun σ H Q => t σ H fun x H1 => ∃ c, x = .bl c /\ Q c H1
theorem pt_cmp {op : CmpOp} {t : TE} (h : PC X op a b t) (h1 : behindInMarks op b = false := by first | exact nobehind _ (by decide) (by decide) | rfl) : PT X (.Compare a [op] [b] pos) (tB t) := by
  intro pins s σ H Q I hw
  refine wpAny_isTrue_Compare1 (thn (h pins s σ H _ I hw) fun v s1 h1 => thn h1 fun u s2 h2 => thn h2 fun c s3 ⟨x, H1, I1, r1, q1⟩ => ?_) h1
  obtain ⟨d, rfl, q⟩ := q1
  cases r1
  exact wpAny_truthy_bool ⟨H1, I1, q⟩
theorem pt_val {e : Expr} {t : TE} (h : PE X e t) (he : ∀ whole, isTrue e X.env whole = (do let v <- whole; standAt e.pos; holding [v] (truthy v)) := by intro _; rfl) : PT X e (tB t) := by
  intro pins s σ H Q I hw
  refine isTrue_plain (thn (h pins s σ H _ I hw) fun v s1 ⟨x, H1, I1, r1, q1⟩ => ?_) (he _)
  obtain ⟨d, rfl, q⟩ := q1
  cases r1
  exact wpAny_truthy_bool ⟨H1, I1, q⟩
variable {tA tB' : TT} {rest : List Expr}
noncomputable def tAnd (t u : TT) : TT := fun σ H Q => t σ H fun c H1 => if c = true then u σ H1 Q else Q false H1
noncomputable def tNot (t : TT) : TT := fun σ H Q => t σ H fun c H1 => Q (!c) H1
theorem pw_and1 (ha : PT X a tA) : PW X (.BoolOp .And [a] pos) tA := by
  intro wh pins s σ H Q I h
  refine isTrue_and (thn (ha pins s σ H Q I h) fun c s1 e => ?_)
  cases c with
  | true => exact isTrue_and_nil e
  | false => exact e
theorem pw_and (ha : PT X a tA) (hb : PW X (.BoolOp .And (b :: rest) pos) tB') : PW X (.BoolOp .And (a :: b :: rest) pos) (tAnd tA tB') := by
  intro wh pins s σ H Q I h
  refine isTrue_and (thn (ha pins s σ H _ I h) fun c s1 ⟨H1, I1, q1⟩ => ?_)
  cases c with
  | true => exact hb wh pins s1 σ H1 Q I1 q1
  | false => exact ⟨H1, I1, q1⟩
theorem pt_not (ha : PT X a tA) : PT X (.UnaryOp .Not a pos) (tNot tA) := by
  intro pins s σ H Q I h
  exact isTrue_not (ha pins s σ H (fun c H1 => Q (!c) H1) I h)
end
end L2
namespace L2
open PySem PySem.Spec PyProof.Rows
noncomputable def SqL (K : PySem.W.Frag) (H : Hp) (a : Addr) (xs : List V) : Prop :=
  Rd H a (.lst xs) \/
    ∃ (o : Obj) (its : Array Value) (n : Nat), K.lookup a = some o /\ o.cls = .type "list" /\ o.dict = none /\ o.data = .seq its n /\ its.size <= sizeLine /\ Vals xs its.toList
noncomputable def SqT (K : PySem.W.Frag) (H : Hp) (a : Addr) (xs : List V) : Prop :=
  Rd H a (.tup xs) \/
    ∃ (o : Obj) (its : Array Value) (n : Nat), K.lookup a = some o /\ o.cls = .type "tuple" /\ o.data = .seq its n /\ its.size <= sizeLine /\ Vals xs its.toList
noncomputable def absV : Value -> Option V
  | .none => some .non
  | .bool b => some (.bl b)
  | .int i _ => some (.int i)
  | .str x _ => some (.str x)
  | .bytes b _ => some (.byt b)
  | .float b _ => some (.flt b)
  | .ref a => some (.ref a)
  | .type n => some (.ty n)
  | _ => none
theorem RelV.abs {x : V} {u : Value} (r : RelV x u) : absV u = some x := by
  cases x with
  | non => cases r; rfl
  | bl _ => cases r; rfl
  | int _ => obtain ⟨t, rfl⟩ := r; rfl
  | str _ => obtain ⟨t, rfl⟩ := r; rfl
  | byt _ => obtain ⟨t, rfl⟩ := r; rfl
  | flt _ => obtain ⟨t, rfl⟩ := r; rfl
  | ref _ => cases r; rfl
  | ty _ => cases r; rfl
theorem RelV.inj {x y : V} {u : Value} (r : RelV x u) (q : RelV y u) : x = y := Option.some.inj (r.abs.symm.trans q.abs)
theorem Vals.inj : ∀ {xs ys : List V} {us : List Value}, Vals xs us -> Vals ys us -> xs = ys
  | _, _, _, .nil, .nil => rfl
  | _, _, _, .cons r t, .cons r' t' => by rw [r.inj r', Vals.inj t t']
section
variable {X : Cx} {pins : List (Addr × Obj)} {σ : St} {H : Hp} {s : Shared} {a : Addr} {xs ys : List V}
theorem SqL.of {K : PySem.W.Frag} (h : H a = some (.lst xs)) : SqL K H a xs := .inl (.inl h)
theorem SqT.of {K : PySem.W.Frag} (h : H a = some (.tup xs)) : SqT K H a xs := .inl (.inl h)
theorem Inv.list (I : Inv X pins σ H s) (h : SqL X.K H a xs) : ∃ its : List Value, Vals xs its /\ PlainL s.heap a its.toArray /\ xs.length <= sizeLine := by
  rcases h with h | ⟨o, its, n, hk, hc, hd, hs, hz, r⟩
  . obtain ⟨z, its, n, r, e⟩ := h.ok I.hok
    exact ⟨its, r, ⟨_, n, e, rfl, rfl, rfl⟩, z⟩
  . refine ⟨its.toList, r, ⟨o, n, I.kIn a o hk, hc, hd, by simpa using hs⟩, ?_⟩
    have e := r.length
    simp only [Array.length_toList] at e
    omega
theorem Inv.tuple (I : Inv X pins σ H s) (h : SqT X.K H a xs) : ∃ its : List Value, Vals xs its /\ IsTup s.heap a its.toArray /\ xs.length <= sizeLine := by
  rcases h with h | ⟨o, its, n, hk, hc, hs, hz, r⟩
  . obtain ⟨z, its, r, p⟩ := h.ok I.hok
    exact ⟨its, r, p, z⟩
  . refine ⟨its.toList, r, ⟨o, I.kIn a o hk, hc, n, by simpa using hs⟩, ?_⟩
    have e := r.length
    simp only [Array.length_toList] at e
    omega
theorem Inv.list_inj (I : Inv X pins σ H s) (h : SqL X.K H a xs) (h' : SqL X.K H a ys) : xs = ys := by
  obtain ⟨its, r, ⟨o, n, e, _, _, d⟩, _⟩ := I.list h
  obtain ⟨its', r', ⟨o', n', e', _, _, d'⟩, _⟩ := I.list h'
  rw [e] at e'; cases e'
  rw [d] at d'
  injection d' with d1 _
  have : its = its' := by simpa using congrArg Array.toList d1
  subst this
  exact r.inj r'
theorem Inv.tuple_inj (I : Inv X pins σ H s) (h : SqT X.K H a xs) (h' : SqT X.K H a ys) : xs = ys := by
  obtain ⟨its, r, ⟨o, e, _, n, d⟩, _⟩ := I.tuple h
  obtain ⟨its', r', ⟨o', e', _, n', d'⟩, _⟩ := I.tuple h'
  rw [e] at e'; cases e'
  rw [d] at d'
  injection d' with d1 _
  have : its = its' := by simpa using congrArg Array.toList d1
  subst this
  exact r.inj r'
end
noncomputable abbrev Cx.wish (X : Cx) (E : Value -> Shared -> Prop) : Cx := { X with xe := E }
noncomputable abbrev Cx.nox (X : Cx) : Cx := X.wish fun _ _ => False
theorem Cx.Ok.wish {X : Cx} (ok : X.Ok) (E : Value -> Shared -> Prop) : (X.wish E).Ok :=
  ⟨ok.mod, ok.kind, ok.glob, ok.blt, ok.above, ok.inj, ok.has, ok.cab, ok.hd, ok.frames, ok.stk, ok.exf, ok.bs, ok.bsz, ok.noex, ok.exfs, ok.funs, ok.frf⟩
theorem Cx.Ok.unwish {X : Cx} {E : Value -> Shared -> Prop} (ok : (X.wish E).Ok) : X.Ok :=
  ⟨ok.mod, ok.kind, ok.glob, ok.blt, ok.above, ok.inj, ok.has, ok.cab, ok.hd, ok.frames, ok.stk, ok.exf, ok.bs, ok.bsz, ok.noex, ok.exfs, ok.funs, ok.frf⟩
section
variable {X : Cx} {pins : List (Addr × Obj)} {σ : St} {H : Hp} {s : Shared} {E : Value -> Shared -> Prop}
theorem Inv.wish (I : Inv X pins σ H s) (E : Value -> Shared -> Prop) : Inv (X.wish E) pins σ H s := ⟨I.ok.wish E, I.os, I.bare, I.base, I.loc, I.cell, I.free, I.freeC, I.pin, I.hok, I.len⟩
theorem Inv.unwish (I : Inv (X.wish E) pins σ H s) : Inv X pins σ H s := ⟨I.ok.unwish, I.os, I.bare, I.base, I.loc, I.cell, I.free, I.freeC, I.pin, I.hok, I.len⟩
theorem SP.unwish {D : Ends} {f : Flow} {s' : Shared} (h : SP (X.wish E) pins D f s') : SP X pins D f s' := by
  cases f with
  | next => obtain ⟨σ', H', I, q⟩ := h; exact ⟨σ', H', I.unwish, q⟩
  | brk => obtain ⟨σ', H', I, q⟩ := h; exact ⟨σ', H', I.unwish, q⟩
  | cont => obtain ⟨σ', H', I, q⟩ := h; exact ⟨σ', H', I.unwish, q⟩
  | ret u => obtain ⟨v, σ', H', I, r, q⟩ := h; exact ⟨v, σ', H', I.unwish, r, q⟩
theorem PSs.nox {st : List Stmt} {t : TS} (h : PSs X.nox st t) : PSs X st t := fun pins s σ H D I hw =>
  wpAny_mono (h pins s σ H D (I.wish _) hw) (fun _ _ q => q.unwish) fun _ _ z => False.elim z
end
section
variable {X : Cx} {st : Stmt} {rest : List Stmt} {t u : TS} {e : Expr} {te : TE} {pos : Pos}
noncomputable def tNext : TS := fun D σ H => D.nx σ H
noncomputable def tSeq (t u : TS) : TS := fun D σ H => t { D with nx := u D } σ H
theorem pss_nil : PSs X [] tNext := fun _ _ σ H _ I h => wpAny_execs_nil ⟨σ, H, I, h⟩
theorem pss_cons (h1 : PS X st t) (h2 : PSs X rest u) : PSs X (st :: rest) (tSeq t u) := by
  intro pins s σ H D I h
  refine wpAny_execs_cons (thn (h1 pins s σ H { D with nx := u D } I h) fun f s1 q => ?_)
  cases f with
  | next =>
    obtain ⟨σ', H', I', q⟩ := q
    exact h2 pins s1 σ' H' D I' q
  | ret v => exact q
  | brk => exact q
  | cont => exact q
theorem pss_one (h1 : PS X st t) : PSs X [st] t := by
  intro pins s σ H D I h
  refine wpAny_execs_cons (thn (h1 pins s σ H D I h) fun f s1 q => ?_)
  cases f with
  | next => exact wpAny_execs_nil q
  | ret v => exact q
  | brk => exact q
  | cont => exact q
theorem Inv.quiet {pins : List (Addr × Obj)} {σ : St} {H : Hp} {s : Shared} (I : Inv X pins σ H s) : interactive X.env = false := by simp [interactive, I.ok.kind]
noncomputable def tDrop (te : TE) : TS := fun D σ H => te σ H fun _ H1 => D.nx σ H1
theorem ps_expr (he : PE X e te) (hs : swapsWith e none pos.line X.env = pure false := by rfl) : PS X (.Expr e pos) (tDrop te) := by
  intro pins s σ H D I h
  exact wpAny_Expr_any (thn (he pins s σ H _ I h) fun v s1 ⟨x, H1, I1, r1, q1⟩ => ⟨σ, H1, I1, q1⟩) I.quiet hs
noncomputable def tRet (te : TE) : TS := fun D σ H => te σ H D.rt
theorem ps_ret (he : PE X e te) : PS X (.Return (some e) pos) (tRet te) := by
  intro pins s σ H D I h
  exact wpAny_Return_some (thn (he pins s σ H _ I h) fun v s1 ⟨x, H1, I1, r1, q1⟩ => ⟨x, σ, H1, I1, r1, q1⟩)
noncomputable def tIfS (c : TT) (t u : TS) : TS := fun D σ H => c σ H fun b H1 => if b = true then t D σ H1 else u D σ H1
theorem ps_if {c : Expr} {a b : List Stmt} {tc : TT} (hc : PT X c tc) (ha : PSs X a t) (hb : PSs X b u) : PS X (.If c a b pos) (tIfS tc t u) := by
  intro pins s σ H D I h
  refine wpAny_If (thn (hc pins s σ H _ I h) fun d s1 ⟨H1, I1, q1⟩ => ?_)
  cases d with
  | true => exact ha pins s1 σ H1 D I1 q1
  | false => exact hb pins s1 σ H1 D I1 q1
end
noncomputable abbrev TG := V -> St -> Hp -> (St -> Hp -> Prop) -> Prop
noncomputable abbrev TGs := List V -> St -> Hp -> (St -> Hp -> Prop) -> Prop
noncomputable def PG (X : Cx) (target : Expr) (t : TG) : Prop :=
  ∀ (pins : List (Addr × Obj)) (s : Shared) (σ : St) (H : Hp) (v : V) (u : Value) (Q : St -> Hp -> Prop), Inv X pins σ H s -> RelV v u -> t v σ H Q ->
    wpAny (model X.prog X.w) X.A (assign target X.env u) (fun _ s' => ∃ σ' H', Inv X pins σ' H' s' /\ Q σ' H') X.xe s
noncomputable def PGs (X : Cx) (ts : List Expr) (t : TGs) : Prop :=
  ∀ (pins : List (Addr × Obj)) (s : Shared) (σ : St) (H : Hp) (vs : List V) (us : List Value) (Q : St -> Hp -> Prop), Inv X pins σ H s -> Vals vs us -> t vs σ H Q ->
    wpAny (model X.prog X.w) X.A (assignInOrder ((assignEach ts X.env).map (·.2)) us) (fun _ s' => ∃ σ' H', Inv X pins σ' H' s' /\ Q σ' H') X.xe s
noncomputable abbrev TSet := V -> V -> V -> Hp -> (Hp -> Prop) -> Prop
noncomputable def PSet (X : Cx) (t : TSet) : Prop :=
  ∀ (pins : List (Addr × Obj)) (s : Shared) (σ : St) (H : Hp) (o i v : V) (ov iv u : Value) (Q : Hp -> Prop), Inv X pins σ H s -> RelV o ov -> RelV i iv -> RelV v u -> t o i v H Q ->
    wpAny (model X.prog X.w) X.A (setItem ov iv u) (fun _ s' => ∃ H', Inv X pins σ H' s' /\ Q H') X.xe s
section
variable {X : Cx} {pos : Pos}
noncomputable def gName (i : Nat) : TG := fun v σ H Q => Q (σ.set i (some v)) H
theorem pg_name {i : Nat} {x : Str} (hN : X.N.Nodup) (hi : X.N[i]? = some x) (hx : Loc X.env.scope x) (hf : X.fn x = true \/ X.env.scope.names.lookup x = some .local := by first | exact .inl rfl | exact .inr rfl | assumption) : PG X (.Name x pos) (gName i) := by
  intro pins s σ H v u Q I r h
  exact wpAny_assign_Name (store_ok I hN hi hx r (fun s' I' => ⟨_, H, I', h⟩) hf)
noncomputable def gNil : TGs := fun vs σ H Q => vs = [] /\ Q σ H
noncomputable def gCons (t : TG) (u : TGs) : TGs := fun vs σ H Q => ∃ v r, vs = v :: r /\ t v σ H fun σ' H' => u r σ' H' Q
theorem pgs_nil : PGs X [] gNil := by
  intro pins s σ H vs us Q I r h
  obtain ⟨e, h⟩ := h
  subst e
  cases r
  exact assignInOrder_nil ⟨σ, H, I, h⟩
theorem pgs_cons {e : Expr} {es : List Expr} {t : TG} {u : TGs} (h1 : PG X e t) (h2 : PGs X es u)
    (hs : (assignEach (e :: es) X.env).map (·.2) = assign e X.env :: (assignEach es X.env).map (·.2) := by rfl) : PGs X (e :: es) (gCons t u) := by
  intro pins s σ H vs us Q I r h
  obtain ⟨v, vr, e1, h⟩ := h
  subst e1
  cases r with
  | cons r rr =>
    rw [hs]
    refine assignInOrder_cons (thn (h1 pins s σ H _ _ _ I r h) fun _ s1 ⟨σ1, H1, I1, q1⟩ => ?_)
    exact h2 pins s1 σ1 H1 _ _ Q I1 rr q1
noncomputable def gTup (K : PySem.W.Frag) (n : Nat) (t : TGs) : TG := fun v σ H Q => ∃ a xs, v = .ref a /\ SqT K H a xs /\ xs.length = n /\ t xs σ H Q
theorem pg_tup {es : List Expr} {k : Nat} {t : TGs} {n : Nat} (hc : X.calm = true) (h : PGs X es t)
    (hn : (assignEach es X.env).length = n := by rfl) (hst : (assignEach es X.env).findIdx? (·.1) = none := by rfl) : PG X (.Tuple es k pos) (gTup X.K n t) := by
  intro pins s σ H v u Q I r hw
  obtain ⟨a, xs, e1, hq, hl, hw⟩ := hw
  subst e1
  cases r
  obtain ⟨its, rv, ht, hz⟩ := I.tuple hq
  refine assign_Tuple_tuple (I.ok.hd hc) ht (by simp [hn, <- hl, rv.length]) hst fun h' hx => ?_
  have I1 : Inv X pins σ H { s with heap := h' } := I.kept (t' := s.toks) fun b o e => hx b o (Nat.ne_of_lt (Heap.lt_size e)) e
  exact h pins _ σ H xs _ Q I1 (by simpa using rv) hw
noncomputable def gSub (to ti : TE) (t : TSet) : TG := fun v σ H Q => to σ H fun o H1 => ti σ H1 fun i H2 => t o i v H2 fun H3 => Q σ H3
theorem pg_sub {o i : Expr} {to ti : TE} {t : TSet} (ho : PE X o to) (hi : PE X i ti) (hs : PSet X t)
    (ha : ∀ v, assign (.Subscript o i pos) X.env v = (do
      let ov <- holding [v] (eval o X.env)
      let iv <- holding [v, ov] (eval i X.env)
      standAt pos
      holding [v, ov, iv] (setItem ov iv v)
      release [v, ov, iv] []) := by intro _; rfl) : PG X (.Subscript o i pos) (gSub to ti t) := by
  intro pins s σ H v u Q I r h
  rw [ha]
  refine wpAny_bind (wpAny_holding (thn (ho pins s σ H _ I h) fun ov s1 ⟨x, H1, I1, r1, q1⟩ => ?_))
  refine wpAny_bind (wpAny_holding (thn (hi pins s1 σ H1 _ I1 q1) fun iv s2 ⟨y, H2, I2, r2, q2⟩ => ?_))
  refine wpAny_bind (wpAny_standAt (wpAny_bind (wpAny_holding (thn (hs pins s2 σ H2 x y v ov iv u _ I2 r1 r2 r q2) fun _ s3 ⟨H3, I3, q3⟩ => ?_))))
  exact wpAny_release ⟨σ, H3, I3, q3⟩
noncomputable def tAsg (te : TE) (g : TG) : TS := fun D σ H => te σ H fun x H1 => g x σ H1 D.nx
theorem ps_asg {tg e : Expr} {te : TE} {g : TG} (he : PE X e te) (hg : PG X tg g) (hs : swapsWithSole [tg] e pos.line X.env = pure false := by rfl) (hw : swappedStores [tg] e X.env = pure none := by rfl)
    (h1 : (assignEach [tg] X.env).map (·.2) = [assign tg X.env] := by rfl) : PS X (.Assign [tg] e pos) (tAsg te g) := by
  intro pins s σ H D I h
  refine wpAny_Assign_stores (thn (he pins s σ H _ I h) fun v s1 ⟨x, H1, I1, r1, q1⟩ => ?_) hs hw
  rw [h1]
  exact thn (hg pins s1 σ H1 x v _ I1 r1 q1) fun _ s2 q => q
theorem ps_set {i : Nat} {x : Str} {e : Expr} {te : TE} {pos' : Pos} (hN : X.N.Nodup) (hi : X.N[i]? = some x) (hx : Loc X.env.scope x) (he : PE X e te) (hs : swapsWith e (some (.Name x pos')) pos.line X.env = pure false := by rfl) (hf : X.fn x = true \/ X.env.scope.names.lookup x = some .local := by first | exact .inl rfl | exact .inr rfl | assumption) :
    PS X (.Assign [.Name x pos'] e pos) (tAsg te (gName i)) := by
  intro pins s σ H D I h
  refine wpAny_Assign_Name (thn (he pins s σ H _ I h) fun v s1 ⟨y, H1, I1, r1, q1⟩ => ?_) hs
  exact store_ok I1 hN hi hx r1 (fun s2 I2 => ⟨_, H1, I2, q1⟩) hf
noncomputable def tPar (i j : Nat) (ta : TA) : TS := fun D σ H => ta σ H fun vs H1 => ∃ v w, vs = [v, w] /\ D.nx ((σ.set i (some v)).set j (some w)) H1
theorem ps_par {i j : Nat} {x y : Str} {a b : Expr} {ta : TA} {px py pt : Pos} {kt k2 pt2} (hc : X.calm = true) (hN : X.N.Nodup) (hi : X.N[i]? = some x) (hj : X.N[j]? = some y) (hij : i ≠ j)
    (hx : X.env.scope.names.lookup x = some .local) (hy : X.env.scope.names.lookup y = some .local) (ha : PA X [a, b] ta)
    (hw : swappedStores [.Tuple [.Name x px, .Name y py] kt pt] (.Tuple [a, b] k2 pt2) X.env = pure (some [x, y]))
    (hs : swapsWithSole [.Tuple [.Name x px, .Name y py] kt pt] (.Tuple [a, b] k2 pt2) pos.line X.env = pure false := by rfl) :
    PS X (.Assign [.Tuple [.Name x px, .Name y py] kt pt] (.Tuple [a, b] k2 pt2) pos) (tPar i j ta) := by
  intro pins s σ H D I h
  rw [exec_Assign_arm]
  refine wpAny_bind (wpAny_standAt ?_)
  rw [hs]
  refine wpAny_bind (wpAny_pure ?_)
  rw [if_neg (by decide)]
  refine wpAny_bind (Tuple_ (thn (ha _ pins s σ H _ I h) fun us s1 ⟨vs, H1, I1, r1, q1⟩ => ?_))
  obtain ⟨v, w, e1, q1⟩ := q1
  subst e1
  obtain ⟨u1, u2, rfl, rv, rw'⟩ : ∃ u1 u2, us = [u1, u2] /\ RelV v u1 /\ RelV w u2 := by
    cases r1 with
    | cons p q =>
      cases q with
      | cons p' q' =>
        cases q'
        exact ⟨_, _, rfl, p, p'⟩
  refine wpAny_newObj_type ?_ (by show 2 <= sizeLine; decide)
  have I2 : Inv X pins σ H1 { s1 with heap := s1.heap.push { cls := .type "tuple", data := .seq [u1, u2].toArray } } := I1.kept (t' := s1.toks) fun b o e => Heap.get?_push_of_some _ e
  rw [hw]
  refine wpAny_bind (wpAny_pure ?_)
  show wpAny (model X.prog X.w) X.A (do rule "assign.swapped-stores"; let items <- unpackItems (.ref s1.heap.objs.size) 2 none; assignInOrder [fun v => bindName X.env y v, fun v => bindName X.env x v] items.reverse; pure Flow.next) _ _ _
  refine wpAny_bind (wpAny_rule (wpAny_bind (unpackItems_tuple (items := #[u1, u2]) (I.ok.hd hc) (IsTup.new s1.heap _) fun h' hx' => ?_)))
  have I3 := I2.kept (h' := h') (t' := s1.toks) fun b o e => hx' b o (Nat.ne_of_lt (Heap.lt_size e)) e
  show wpAny _ _ (assignInOrder [fun v => bindName X.env y v, fun v => bindName X.env x v] [u2, u1] >>= fun _ => pure Flow.next) _ _ _
  refine wpAny_bind (assignInOrder_cons (wpAny_bindName (store_ok I3 hN hj (.inl hy) rw' (fun s2 I4 => ?_) (.inr hy))))
  refine assignInOrder_cons (wpAny_bindName (store_ok I4 hN hi (.inl hx) rv (fun s3 I5 => assignInOrder_nil (wpAny_pure ?_)) (.inr hx)))
  rw [List.set_comm _ _ (Ne.symm hij)] at I5
  exact ⟨_, H1, I5, q1⟩
end
section
variable {X : Cx} {pos : Pos}
noncomputable def tWhile (c : TT) (tb : TS) : TS := fun D σ H => ∃ W : Nat -> St -> Hp -> Prop, (∃ m, W m σ H) /\ ∀ m σ H, W m σ H ->
  c σ H fun b H1 => if b = true then ∃ N : St -> Hp -> Prop, (∀ σ' H', N σ' H' -> ∃ m', m' < m /\ W m' σ' H') /\ tb { D with nx := N, ct := N, bk := D.nx } σ H1 else D.nx σ H1
theorem ps_while {c : Expr} {body : List Stmt} {tc : TT} {tb : TS} (hp : PassesOwn (model X.prog X.w) X.A X.env X.xe) (hc : PT X c tc) (hb : PSs X body tb) : PS X (.While c body [] pos) (tWhile tc tb) := by
  intro pins s σ H D I h
  obtain ⟨W, ⟨m0, w0⟩, turn⟩ := h
  refine wpAny_While (codeAny_whileLoop (fun n s' => ∃ σ' H', Inv X pins σ' H' s' /\ W n σ' H') ?_ m0 ⟨σ, H, I, w0⟩)
  rintro n s1 ⟨σ1, H1, I1, w1⟩
  refine wpAny_passesOwn hp (thn (hc pins s1 σ1 H1 _ I1 (turn n σ1 H1 w1)) fun b s2 ⟨H2, I2, q2⟩ => ?_)
  cases b with
  | true =>
    obtain ⟨N, hN, q2⟩ := q2
    rw [if_pos rfl]
    refine wpAny_passesOwn hp (thn (hb pins s2 σ1 H2 _ I2 q2) fun f s3 q3 => ?_)
    cases f with
    | next =>
      obtain ⟨σ3, H3, I3, n3⟩ := q3
      obtain ⟨m', hm, w3⟩ := hN σ3 H3 n3
      exact ⟨m', hm, σ3, H3, I3, w3⟩
    | cont =>
      obtain ⟨σ3, H3, I3, n3⟩ := q3
      obtain ⟨m', hm, w3⟩ := hN σ3 H3 n3
      exact ⟨m', hm, σ3, H3, I3, w3⟩
    | brk => exact q3
    | ret v => exact q3
  | false =>
    rw [if_neg Bool.false_ne_true]
    exact wpAny_execs_nil ⟨σ1, H2, I2, q2⟩
end
structure It where
  go : Nat -> Hp -> Prop
  yld : Nat -> Hp -> V -> Hp -> Prop
  stop : Nat -> Hp -> Prop
noncomputable def FpOk (X : Cx) (pins : List (Addr × Obj)) (H : Hp) (b : Addr) : Prop :=
  H b = none /\ b ≠ X.env.locals /\ b ∉ X.fs /\ (b ∈ X.ex \/ X.s₀.heap.objs.size <= b) /\ (∀ x c, X.env.cells.lookup x = some c -> c ≠ b) /\ ∀ p ∈ X.pn ++ pins, p.1 ≠ b
theorem Inv.fpOk {X : Cx} {pins : List (Addr × Obj)} {σ : St} {H H' : Hp} {s : Shared} {b : Addr} (I : Inv X pins σ H s) (hb : s.heap.objs.size <= b) (hn : H' b = none) : FpOk X pins H' b := by
  refine ⟨hn, Nat.ne_of_gt (Nat.lt_of_lt_of_le I.lt hb), I.nofs hb, .inr (Nat.le_trans I.sz hb), fun x c e z => ?_, fun p hp z => ?_⟩
  . obtain ⟨v, q⟩ := I.cell x c e
    exact absurd (Nat.lt_of_lt_of_le q.lt (by rw [z]; exact hb)) (Nat.lt_irrefl _)
  . exact absurd (Nat.lt_of_lt_of_le (Heap.lt_size (I.pin p hp).1) (by rw [z]; exact hb)) (Nat.lt_irrefl _)
structure Turn (P : Program) (w : World) (K : PySem.W.Frag) (tg : Expr) (J : It) (fp : List Addr) (it : Addr) (tn : Nat -> Heap -> Prop) : Prop where
  mem : it ∈ fp
  obj : ∀ i h, tn i h -> ∀ b ∈ fp, ∃ o, h.get? b = some o /\ ∀ v, o.data ≠ .cell v
  keep : ∀ i h h', tn i h -> (∀ b ∈ fp, ∀ o, h.get? b = some o -> h'.get? b = some o) -> tn i h'
  item : ∀ (X : Cx), X.prog = P -> X.w = w -> X.K = K -> X.calm = true -> ∀ (i : Nat) (pins : List (Addr × Obj)) (s : Shared) (σ : St) (H : Hp) (E : Value -> Shared -> Prop), Inv X pins σ H s -> (∀ b ∈ fp, FpOk X pins H b) -> tn i s.heap -> J.go i H ->
    wpAny (model P w) X.A (pyNext (.ref it)) (fun r s1 => ∃ u, r = some u /\
      wpAny (model P w) X.A (letOwnedTupleGo tg (.ref it) u) (fun _ s2 => ∃ x H', Inv X pins σ H' s2 /\ RelV x u /\ J.yld i H x H' /\ tn (i + 1) s2.heap /\ ∀ b ∈ fp, H' b = none) E s1) E s
  done : ∀ (X : Cx), X.prog = P -> X.w = w -> X.K = K -> X.calm = true -> ∀ (i : Nat) (pins : List (Addr × Obj)) (s : Shared) (σ : St) (H : Hp) (E : Value -> Shared -> Prop), Inv X pins σ H s -> (∀ b ∈ fp, FpOk X pins H b) -> tn i s.heap -> J.stop i H ->
    wpAny (model P w) X.A (pyNext (.ref it)) (fun r s1 => r = none /\ Inv X pins σ H s1) E s
  self : ∀ (A : Around) (i : Nat) (s : Shared) (Q : Value -> Shared -> Prop) (E : Value -> Shared -> Prop), tn i s.heap -> Q (.ref it) s -> wpAny (model P w) A (pyIter (.ref it)) Q E s
noncomputable abbrev TI := St -> Hp -> (It -> Hp -> Prop) -> Prop
noncomputable def PIE (X : Cx) (pins : List (Addr × Obj)) (σ : St) (tg : Expr) (R : It -> Hp -> Prop) (itv : Value) (s2 : Shared) : Prop :=
  ∃ (it : Addr) (fp : List Addr) (tn : Nat -> Heap -> Prop) (J : It) (H' : Hp), itv = .ref it /\ Inv X pins σ H' s2 /\ Turn X.prog X.w X.K tg J fp it tn /\ tn 0 s2.heap /\ (∀ b ∈ fp, FpOk X pins H' b) /\ R J H'
noncomputable def PI (X : Cx) (tg iter : Expr) (wi : TI) : Prop :=
  ∀ (pins : List (Addr × Obj)) (s : Shared) (σ : St) (H : Hp) (R : It -> Hp -> Prop), Inv X pins σ H s -> wi σ H R ->
    wpAny (model X.prog X.w) X.A (eval iter X.env) (fun v s1 => wpAny (model X.prog X.w) X.A (pyIter v) (PIE X pins σ tg R) X.xe s1) X.xe s
theorem go_of {M : Model} {A : Around} {E : Value -> Shared -> Prop} {s : Shared} {tg : Expr} {it : Addr} {u : Value} {o : Obj} {n : String} {vs : Array Value} {Q : Unit -> Shared -> Prop} (ho : s.heap.get? it = some o) (hc : o.cls = .type n) (hd : o.data = .fields vs)
    (hn : ["enumerate", "zip", "dict_itemiterator", "dict_reverseitemiterator", "odict_iterator", "itertools.zip_longest", "itertools.pairwise"].contains n = false) (hQ : Q () s) : wpAny M A (letOwnedTupleGo tg (.ref it) u) Q E s := by
  unfold letOwnedTupleGo
  cases tg <;> first
    | exact wpAny_pure hQ
    | (cases u <;> first
        | exact wpAny_pure hQ
        | (refine wpAny_bind (wpAny_load ho ?_)
           rw [hc, hd]
           show wpAny M A (if (["enumerate", "zip", "dict_itemiterator", "dict_reverseitemiterator", "odict_iterator", "itertools.zip_longest", "itertools.pairwise"].contains n && vs[0]? == some (rawInt _)) = true then _ else _) Q E s
           rw [if_neg (by intro h; rw [hn, Bool.false_and] at h; cases h)]
           exact wpAny_pure hQ))
noncomputable def Itl (K : PySem.W.Frag) (a : Addr) : It :=
  ⟨fun i H => ∃ xs x, SqL K H a xs /\ xs[i]? = some x, fun i H x H' => H' = H /\ ∀ xs, SqL K H a xs -> xs[i]? = some x, fun i H => ∃ xs, SqL K H a xs /\ xs.length <= i⟩
noncomputable def Itt (K : PySem.W.Frag) (a : Addr) : It :=
  ⟨fun i H => ∃ xs x, SqT K H a xs /\ xs[i]? = some x, fun i H x H' => H' = H /\ ∀ xs, SqT K H a xs -> xs[i]? = some x, fun i H => ∃ xs, SqT K H a xs /\ xs.length <= i⟩
noncomputable def Itr (lo : Int) (n : Nat) : It := ⟨fun i _ => i < n, fun i H x H' => H' = H /\ x = .int (lo + i), fun i _ => n <= i⟩
theorem turn_list {P : Program} {w : World} {K : PySem.W.Frag} {tg : Expr} (a it : Addr) : Turn P w K tg (Itl K a) [it] it (fun i h => h.IsListIter it a i) where
  mem := by simp
  obj := fun i h st b hb => by
    have e : b = it := by simpa using hb
    subst e
    obtain ⟨o, e, c, d⟩ := st
    exact ⟨o, e, fun v z => by rw [d] at z; cases z⟩
  keep := fun i h h' st k => st.at fun o e => k it (by simp) o e
  item := by
    intro X hP hw hK hc i pins s σ H E I hf st hg
    subst hP hw hK
    obtain ⟨xs, x, hq, hx⟩ := hg
    obtain ⟨its, rv, p, hz⟩ := I.list hq
    obtain ⟨u, hu, ru⟩ := rv.get hx
    obtain ⟨f0, f1, f2, f3, f4, f5⟩ := hf it (by simp)
    refine wpAny_pyNext_list_item st p.isList (x := u) (by simpa using hu) fun h' st' sb => ?_
    have I1 : Inv X pins σ H { s with heap := h' } := I.turned (t' := s.toks) (fun b o hb e => (sb.2 b hb).trans e) f0 f1 f3 f4 f5
    obtain ⟨o, e, c, d⟩ := id st'
    exact ⟨u, rfl, go_of (s := { s with heap := h' }) e c d (by decide) ⟨x, H, I1, ru, ⟨rfl, fun ys hy => by rw [I.list_inj hy hq]; exact hx⟩, st', fun b hb => (hf b hb).1⟩⟩
  done := by
    intro X hP hw hK hc i pins s σ H E I hf st hg
    subst hP hw hK
    obtain ⟨xs, hq, hx⟩ := hg
    obtain ⟨its, rv, p, hz⟩ := I.list hq
    obtain ⟨f0, f1, f2, f3, f4, f5⟩ := hf it (by simp)
    have hl := rv.length
    exact wpAny_pyNext_list_end (I.ok.hd hc) st p.isList (by simp; omega) fun h' eb => ⟨rfl, I.turned (t' := s.toks) (fun b o hb e => eb b o hb e) f0 f1 f3 f4 f5⟩
  self := fun _ _ _ _ _ st h => wpAny_pyIter_listiter st h
theorem turn_tuple {P : Program} {w : World} {K : PySem.W.Frag} {tg : Expr} (a it : Addr) : Turn P w K tg (Itt K a) [it] it (fun i h => h.IsTupleIter it a i) where
  mem := by simp
  obj := fun i h st b hb => by
    have e : b = it := by simpa using hb
    subst e
    obtain ⟨o, e, c, d⟩ := st
    exact ⟨o, e, fun v z => by rw [d] at z; cases z⟩
  keep := fun i h h' st k => st.at fun o e => k it (by simp) o e
  item := by
    intro X hP hw hK hc i pins s σ H E I hf st hg
    subst hP hw hK
    obtain ⟨xs, x, hq, hx⟩ := hg
    obtain ⟨its, rv, p, hz⟩ := I.tuple hq
    obtain ⟨u, hu, ru⟩ := rv.get hx
    obtain ⟨f0, f1, f2, f3, f4, f5⟩ := hf it (by simp)
    refine wpAny_pyNext_tuple_item st (show s.heap.IsTuple a its.toArray from p) (x := u) (by simpa using hu) fun h' st' sb => ?_
    have I1 : Inv X pins σ H { s with heap := h' } := I.turned (t' := s.toks) (fun b o hb e => (sb.2 b hb).trans e) f0 f1 f3 f4 f5
    obtain ⟨o, e, c, d⟩ := id st'
    exact ⟨u, rfl, go_of (s := { s with heap := h' }) e c d (by decide) ⟨x, H, I1, ru, ⟨rfl, fun ys hy => by rw [I.tuple_inj hy hq]; exact hx⟩, st', fun b hb => (hf b hb).1⟩⟩
  done := by
    intro X hP hw hK hc i pins s σ H E I hf st hg
    subst hP hw hK
    obtain ⟨xs, hq, hx⟩ := hg
    obtain ⟨its, rv, p, hz⟩ := I.tuple hq
    obtain ⟨f0, f1, f2, f3, f4, f5⟩ := hf it (by simp)
    have hl := rv.length
    exact wpAny_pyNext_tuple_end (I.ok.hd hc) st (show s.heap.IsTuple a its.toArray from p) (by simp; omega) fun h' eb => ⟨rfl, I.turned (t' := s.toks) (fun b o hb e => eb b o hb e) f0 f1 f3 f4 f5⟩
  self := fun _ _ _ _ _ st h => wpAny_pyIter_tupleiter st h
theorem turn_range {P : Program} {w : World} {K : PySem.W.Frag} {tg : Expr} (it : Addr) (lo : Int) (n : Nat) : Turn P w K tg (Itr lo n) [it] it (fun i h => IsRangeIter h it (lo + (i : Nat) * 1) ((n : Int) - (i : Nat)) 1) where
  mem := by simp
  obj := fun i h st b hb => by
    have e : b = it := by simpa using hb
    subst e
    exact ⟨_, st, fun v z => by
      have z' : Data.fields _ = Data.cell v := z
      cases z'⟩
  keep := fun i h h' st k => k it (by simp) _ st
  item := by
    intro X hP hw hK hc i pins s σ H E I hf st hg
    subst hP hw hK
    obtain ⟨f0, f1, f2, f3, f4, f5⟩ := hf it (by simp)
    have W := Walks.range (prog := X.prog) (w := X.w) (I.ok.hd hc) it lo 1 n
    refine W.item i s _ _ hg st fun v h' tk hv st' kk => ?_
    obtain ⟨t, rfl⟩ := hv
    have I1 : Inv X pins σ H { s with heap := h', toks := tk } := I.turned (fun b o hb e => kk b o (by simpa using hb) e) f0 f1 f3 f4 f5
    refine ⟨_, rfl, go_of (s := { s with heap := h', toks := tk }) (n := "range_iterator") st' rfl rfl (by decide) ⟨.int (lo + i), H, I1, ⟨t, ?_⟩, ⟨rfl, rfl⟩, st', fun b hb => (hf b hb).1⟩⟩
    rw [Int.mul_one]
  done := by
    intro X hP hw hK hc i pins s σ H E I hf st hg
    subst hP hw hK
    obtain ⟨f0, f1, f2, f3, f4, f5⟩ := hf it (by simp)
    exact wpAny_pyNext_range_end (I.ok.hd hc) st (by have : n <= i := hg; omega) fun h' eb => ⟨rfl, I.turned (t' := s.toks) (fun b o hb e => eb b o hb e) f0 f1 f3 f4 f5⟩
  self := fun _ _ _ _ _ st h => wpAny_pyIter_rangeiter st h
end L2
namespace L2
open PySem PySem.Spec PyProof.Rows
section
variable {X : Cx} {tg : Expr}
noncomputable def iList (K : PySem.W.Frag) (tl : TE) : TI := fun σ H R => tl σ H fun x H1 => ∃ a, x = .ref a /\ (∃ xs, SqL K H1 a xs) /\ R (Itl K a) H1
noncomputable def iTup (K : PySem.W.Frag) (tl : TE) : TI := fun σ H R => tl σ H fun x H1 => ∃ a, x = .ref a /\ (∃ xs, SqT K H1 a xs) /\ R (Itt K a) H1
theorem pi_list {l : Expr} {tl : TE} (hl : PE X l tl) : PI X tg l (iList X.K tl) := by
  intro pins s σ H R I h
  refine thn (hl pins s σ H _ I h) fun v s1 ⟨x, H1, I1, r1, q1⟩ => ?_
  obtain ⟨a, e, ⟨xs, hq⟩, q⟩ := q1
  subst e
  cases r1
  obtain ⟨its, rv, p, hz⟩ := I1.list hq
  refine wpAny_pyIter_list p.isList ?_
  refine ⟨s1.heap.objs.size, [s1.heap.objs.size], _, _, H1, rfl, I1.kept (t' := s1.toks) fun b o e => Heap.get?_push_of_some _ e, turn_list a _, ⟨_, Heap.get?_push_size _ rfl, rfl, rfl⟩, fun b hb => ?_, q⟩
  have e : b = s1.heap.objs.size := by simpa using hb
  subst e
  exact I1.fpOk (Nat.le_refl _) (I1.hok.fresh (Nat.le_refl _))
theorem pi_tup {l : Expr} {tl : TE} (hl : PE X l tl) : PI X tg l (iTup X.K tl) := by
  intro pins s σ H R I h
  refine thn (hl pins s σ H _ I h) fun v s1 ⟨x, H1, I1, r1, q1⟩ => ?_
  obtain ⟨a, e, ⟨xs, hq⟩, q⟩ := q1
  subst e
  cases r1
  obtain ⟨its, rv, p, hz⟩ := I1.tuple hq
  refine wpAny_pyIter_tuple (show s1.heap.IsTuple a its.toArray from p) ?_
  refine ⟨s1.heap.objs.size, [s1.heap.objs.size], _, _, H1, rfl, I1.kept (t' := s1.toks) fun b o e => Heap.get?_push_of_some _ e, turn_tuple a _, ⟨_, Heap.get?_push_size _ rfl, rfl, rfl⟩, fun b hb => ?_, q⟩
  have e : b = s1.heap.objs.size := by simpa using hb
  subst e
  exact I1.fpOk (Nat.le_refl _) (I1.hok.fresh (Nat.le_refl _))
theorem range_it {pins : List (Addr × Obj)} {σ : St} {H : Hp} {s : Shared} {R : It -> Hp -> Prop} {E : Value -> Shared -> Prop} {lo hi : Int} {t u v : Tok} {tk : Nat} (I : Inv X pins σ H s) (h1 : -(2 ^ 62) <= lo) (h2 : lo < 2 ^ 62) (h3 : -(2 ^ 62) <= hi) (h4 : hi < 2 ^ 62)
    (q : R (Itr lo (hi - lo).toNat) H) : wpAny (model X.prog X.w) X.A (pyIter (.ref s.heap.objs.size)) (PIE X pins σ tg R) E { s with heap := s.heap.push { cls := .type "range", data := .fields #[.int lo t, .int hi u, .int 1 v] }, toks := tk } := by
  refine wpAny_pyIter_range (IsRange.new ..) (small_one h1 h2 h3 h4) ?_
  have I1 : Inv X pins σ H { s with heap := s.heap.push { cls := .type "range", data := .fields #[.int lo t, .int hi u, .int 1 v] }, toks := tk } := I.kept fun b o e => Heap.get?_push_of_some _ e
  refine ⟨(s.heap.push { cls := .type "range", data := .fields #[.int lo t, .int hi u, .int 1 v] }).objs.size, [(s.heap.push { cls := .type "range", data := .fields #[.int lo t, .int hi u, .int 1 v] }).objs.size], _, _, H, rfl,
    I1.kept (t' := tk) fun b o e => Heap.get?_push_of_some _ e, turn_range _ lo (hi - lo).toNat, ?_, fun b hb => ?_, q⟩
  . have e1 : lo + ((0 : Nat) : Int) * 1 = lo := by simp
    have e2 : (((hi - lo).toNat : Nat) : Int) - ((0 : Nat) : Int) = Builtin.Range.rangeSize lo hi 1 := by rw [rangeSize_one]; split <;> omega
    show IsRangeIter _ _ (lo + ((0 : Nat) : Int) * 1) ((((hi - lo).toNat : Nat) : Int) - ((0 : Nat) : Int)) 1
    rw [e1, e2]
    exact Heap.get?_push_size _ rfl
  . have e : b = (s.heap.push { cls := .type "range", data := .fields #[.int lo t, .int hi u, .int 1 v] }).objs.size := by simpa using hb
    subst e
    exact I1.fpOk (Nat.le_refl _) (I1.hok.fresh (Nat.le_refl _))
noncomputable def iRng1 (ta : TA) : TI := fun σ H R => ta σ H fun vs H1 => ∃ j : Int, vs = [.int j] /\ -(2 ^ 62) <= j /\ j < 2 ^ 62 /\ R (Itr 0 j.toNat) H1
theorem pi_range1 {a : Expr} {ta : TA} {p pos : Pos} (hg : Gl X "range") (hm : X.mg "range" = none) (ha : PA X [a] ta) (hs : starEach [a] X.env = [(false, eval a X.env)] := by rfl) : PI X tg (.Call (.Name "range" p) [a] [] pos) (iRng1 ta) := by
  intro pins s σ H R I h
  refine Call_ (ld_blt I hg hm boot_range (PyProof.Rows.callWith_type1 (thn (ha pos pins s σ H _ I h) fun us s1 ⟨vs, H1, I1, r1, q1⟩ => ?_) hs rfl))
  obtain ⟨j, e, q1, q2, q⟩ := q1
  subst e
  cases r1 with
  | cons r rr =>
    cases rr
    obtain ⟨t, rfl⟩ := r
    exact call_range_1 (range_it I1 (by omega) (by omega) q1 q2 (by simpa using q))
noncomputable def tFor (wi : TI) (g : TG) (tb : TS) : TS := fun D σ H => wi σ H fun J H1 => ∃ W : Nat -> Nat -> St -> Hp -> Prop, (∃ m, W 0 m σ H1) /\ ∀ i m σ H, W i m σ H ->
  (J.stop i H /\ D.nx σ H) \/ (J.go i H /\ ∃ N : St -> Hp -> Prop, (∀ σ' H', N σ' H' -> ∃ m', m' < m /\ W (i + 1) m' σ' H') /\ ∀ x H', J.yld i H x H' -> g x σ H' fun σ2 H2 => tb { D with nx := N, ct := N, bk := D.nx } σ2 H2)
noncomputable def pinsAt (fp : List Addr) (h : Heap) : List (Addr × Obj) := fp.filterMap fun b => (h.get? b).map fun o => (b, o)
theorem mem_pinsAt {fp : List Addr} {h : Heap} {b : Addr} {o : Obj} (hb : b ∈ fp) (e : h.get? b = some o) : (b, o) ∈ pinsAt fp h := List.mem_filterMap.mpr ⟨b, hb, by rw [e]; rfl⟩
theorem of_pinsAt {fp : List Addr} {h : Heap} {p : Addr × Obj} (hp : p ∈ pinsAt fp h) : p.1 ∈ fp /\ h.get? p.1 = some p.2 := by
  obtain ⟨b, hb, e⟩ := List.mem_filterMap.mp hp
  cases q : h.get? b with
  | none => rw [q] at e; cases e
  | some o =>
    rw [q] at e
    have e' : (b, o) = p := Option.some.inj e
    subst e'
    exact ⟨hb, q⟩
theorem Inv.pinned {pins : List (Addr × Obj)} {σ : St} {H : Hp} {s : Shared} {fp : List Addr} (I : Inv X pins σ H s) (hf : ∀ b ∈ fp, FpOk X pins H b) (ho : ∀ b ∈ fp, ∃ o, s.heap.get? b = some o /\ ∀ v, o.data ≠ .cell v) : Inv X (pins ++ pinsAt fp s.heap) σ H s :=
  I.pins_of fun p hp => (List.mem_append.mp hp).elim (fun z => I.pin p (List.mem_append_right _ z)) fun z => by
    obtain ⟨hb, e⟩ := of_pinsAt z
    obtain ⟨f0, f1, f2, _⟩ := hf p.1 hb
    obtain ⟨o, e', d⟩ := ho p.1 hb
    rw [e] at e'; cases e'
    exact ⟨e, f0, f1, f2, d⟩
theorem Inv.unpinned {pins pl : List (Addr × Obj)} {σ : St} {H : Hp} {s : Shared} (I : Inv X (pins ++ pl) σ H s) : Inv X pins σ H s := I.pins_of fun p hp => I.pin p (List.mem_append_right _ (List.mem_append_left _ hp))
theorem ps_for {iter : Expr} {body : List Stmt} {wi : TI} {g : TG} {tb : TS} {pos : Pos} (hp : PassesOwn (model X.prog X.w) X.A X.env X.xe) (hc : X.calm = true) (hi : PI X tg iter wi) (hg : PG X tg g) (hb : PSs X body tb)
    (hs : ∀ x, foldedSetIterable iter X.env x = pure x := by intro _; rfl) : PS X (.For tg iter body [] pos) (tFor wi g tb) := by
  intro pins s σ H D I h
  refine wpAny_For (thn (hi pins s σ H _ I h) fun v s1 h1 => thn h1 fun itv s2 h2 => ?_) hs
  obtain ⟨it, fp, tn, J, H2, e, I2, T, st2, f2, W, ⟨m0, w0⟩, turn⟩ := h2
  subst e
  have stat : ∀ {H' : Hp}, (∀ b ∈ fp, H' b = none) -> ∀ b ∈ fp, FpOk X pins H' b := fun hn b hb => ⟨hn b hb, (f2 b hb).2⟩
  refine codeAny_forLoop_any (fun n s' => ∃ i σ' H', Inv X pins σ' H' s' /\ tn i s'.heap /\ (∀ b ∈ fp, H' b = none) /\ W i n σ' H') ?_ m0 ⟨0, σ, H2, I2, st2, fun b hb => (f2 b hb).1, w0⟩
  rintro n s3 ⟨i, σ3, H3, I3, st3, fr3, w3⟩
  rcases turn i n σ3 H3 w3 with ⟨stop, qn⟩ | ⟨go, N, hN, step⟩
  . refine wpAny_passesOwn hp (thn (T.done X rfl rfl rfl hc i pins s3 σ3 H3 X.xe I3 (stat fr3) st3 stop) fun r s4 ⟨hr, I4⟩ => ?_)
    subst hr
    exact wpAny_execs_nil ⟨σ3, H3, I4, qn⟩
  . refine wpAny_passesOwn hp (thn (T.item X rfl rfl rfl hc i pins s3 σ3 H3 X.xe I3 (stat fr3) st3 go) fun r s4 ⟨u, hr, h4⟩ => ?_)
    subst hr
    refine wpAny_passesOwn hp (thn h4 fun _ s5 ⟨x, H5, I5, r5, y5, st5, fr5⟩ => ?_)
    have I5' := I5.pinned (stat fr5) (T.obj _ _ st5)
    refine wpAny_passesOwn hp (thn (hg _ s5 σ3 H5 x u _ I5' r5 (step x H5 y5)) fun _ s6 ⟨σ6, H6, I6, q6⟩ => ?_)
    refine wpAny_passesOwn hp (thn (hb _ s6 σ6 H6 _ I6 q6) fun f s7 q7 => ?_)
    have again : ∀ {σ7 : St} {H7 : Hp}, Inv X (pins ++ pinsAt fp s5.heap) σ7 H7 s7 -> N σ7 H7 -> ∃ m, m < n /\ ∃ i σ' H', Inv X pins σ' H' s7 /\ tn i s7.heap /\ (∀ b ∈ fp, H' b = none) /\ W i m σ' H' := fun {σ7 H7} I7 n7 => by
      obtain ⟨m', hm, w7⟩ := hN σ7 H7 n7
      refine ⟨m', hm, i + 1, σ7, H7, I7.unpinned, T.keep _ _ _ st5 fun b hb o e => (I7.pin (b, o) (List.mem_append_right _ (List.mem_append_right _ (mem_pinsAt hb e)))).1, fun b hb => ?_, w7⟩
      obtain ⟨o, e, d⟩ := T.obj _ _ st5 b hb
      exact (I7.pin (b, o) (List.mem_append_right _ (List.mem_append_right _ (mem_pinsAt hb e)))).2.1
    cases f with
    | next => obtain ⟨σ7, H7, I7, n7⟩ := q7; exact again I7 n7
    | cont => obtain ⟨σ7, H7, I7, n7⟩ := q7; exact again I7 n7
    | brk => obtain ⟨σ7, H7, I7, q7⟩ := q7; exact ⟨σ7, H7, I7.unpinned, q7⟩
    | ret v => obtain ⟨x7, σ7, H7, I7, r7, q7⟩ := q7; exact ⟨x7, σ7, H7, I7.unpinned, r7, q7⟩
end
theorem for_list {K : PySem.W.Frag} {a : Addr} {xs : List V} {g : TG} {tb : TS} {D : Ends} {σ : St} {H : Hp} (Pv : Nat -> St -> Hp -> Prop) (h0 : Pv 0 σ H) (hl : ∀ i σ H, i <= xs.length -> Pv i σ H -> SqL K H a xs)
    (hs : ∀ i x σ H, xs[i]? = some x -> Pv i σ H -> g x σ H fun σ2 H2 => tb { D with nx := Pv (i + 1), ct := Pv (i + 1), bk := D.nx } σ2 H2) (hd : ∀ σ H, Pv xs.length σ H -> D.nx σ H) :
    ∃ W : Nat -> Nat -> St -> Hp -> Prop, (∃ m, W 0 m σ H) /\ ∀ i m σ H, W i m σ H ->
      ((Itl K a).stop i H /\ D.nx σ H) \/ ((Itl K a).go i H /\ ∃ N : St -> Hp -> Prop, (∀ σ' H', N σ' H' -> ∃ m', m' < m /\ W (i + 1) m' σ' H') /\ ∀ x H', (Itl K a).yld i H x H' -> g x σ H' fun σ2 H2 => tb { D with nx := N, ct := N, bk := D.nx } σ2 H2) := by
  refine ⟨fun i m σ H => m = xs.length - i /\ i <= xs.length /\ Pv i σ H, ⟨xs.length, by simp, Nat.zero_le _, h0⟩, ?_⟩
  rintro i m σ H ⟨rfl, hi, p⟩
  have q := hl i σ H hi p
  by_cases hlt : i < xs.length
  . refine .inr ⟨⟨xs, xs[i], q, by simp [hlt]⟩, Pv (i + 1), fun σ' H' p' => ⟨xs.length - (i + 1), by omega, rfl, hlt, p'⟩, fun x H' y => ?_⟩
    obtain ⟨e, y⟩ := y
    subst e
    exact hs i x σ _ (y xs q) p
  . have e : i = xs.length := by omega
    subst e
    exact .inl ⟨⟨xs, q, Nat.le_refl _⟩, hd σ H p⟩
theorem for_tup {K : PySem.W.Frag} {a : Addr} {xs : List V} {g : TG} {tb : TS} {D : Ends} {σ : St} {H : Hp} (Pv : Nat -> St -> Hp -> Prop) (h0 : Pv 0 σ H) (hl : ∀ i σ H, i <= xs.length -> Pv i σ H -> SqT K H a xs)
    (hs : ∀ i x σ H, xs[i]? = some x -> Pv i σ H -> g x σ H fun σ2 H2 => tb { D with nx := Pv (i + 1), ct := Pv (i + 1), bk := D.nx } σ2 H2) (hd : ∀ σ H, Pv xs.length σ H -> D.nx σ H) :
    ∃ W : Nat -> Nat -> St -> Hp -> Prop, (∃ m, W 0 m σ H) /\ ∀ i m σ H, W i m σ H ->
      ((Itt K a).stop i H /\ D.nx σ H) \/ ((Itt K a).go i H /\ ∃ N : St -> Hp -> Prop, (∀ σ' H', N σ' H' -> ∃ m', m' < m /\ W (i + 1) m' σ' H') /\ ∀ x H', (Itt K a).yld i H x H' -> g x σ H' fun σ2 H2 => tb { D with nx := N, ct := N, bk := D.nx } σ2 H2) := by
  refine ⟨fun i m σ H => m = xs.length - i /\ i <= xs.length /\ Pv i σ H, ⟨xs.length, by simp, Nat.zero_le _, h0⟩, ?_⟩
  rintro i m σ H ⟨rfl, hi, p⟩
  have q := hl i σ H hi p
  by_cases hlt : i < xs.length
  . refine .inr ⟨⟨xs, xs[i], q, by simp [hlt]⟩, Pv (i + 1), fun σ' H' p' => ⟨xs.length - (i + 1), by omega, rfl, hlt, p'⟩, fun x H' y => ?_⟩
    obtain ⟨e, y⟩ := y
    subst e
    exact hs i x σ _ (y xs q) p
  . have e : i = xs.length := by omega
    subst e
    exact .inl ⟨⟨xs, q, Nat.le_refl _⟩, hd σ H p⟩
theorem for_range {lo : Int} {n : Nat} {g : TG} {tb : TS} {D : Ends} {σ : St} {H : Hp} (Pv : Nat -> St -> Hp -> Prop) (h0 : Pv 0 σ H)
    (hs : ∀ i σ H, i < n -> Pv i σ H -> g (.int (lo + i)) σ H fun σ2 H2 => tb { D with nx := Pv (i + 1), ct := Pv (i + 1), bk := D.nx } σ2 H2) (hd : ∀ σ H, Pv n σ H -> D.nx σ H) :
    ∃ W : Nat -> Nat -> St -> Hp -> Prop, (∃ m, W 0 m σ H) /\ ∀ i m σ H, W i m σ H ->
      ((Itr lo n).stop i H /\ D.nx σ H) \/ ((Itr lo n).go i H /\ ∃ N : St -> Hp -> Prop, (∀ σ' H', N σ' H' -> ∃ m', m' < m /\ W (i + 1) m' σ' H') /\ ∀ x H', (Itr lo n).yld i H x H' -> g x σ H' fun σ2 H2 => tb { D with nx := N, ct := N, bk := D.nx } σ2 H2) := by
  refine ⟨fun i m σ H => m = n - i /\ i <= n /\ Pv i σ H, ⟨n, by simp, Nat.zero_le _, h0⟩, ?_⟩
  rintro i m σ H ⟨rfl, hi, p⟩
  by_cases hlt : i < n
  . refine .inr ⟨hlt, Pv (i + 1), fun σ' H' p' => ⟨n - (i + 1), by omega, rfl, hlt, p'⟩, fun x H' y => ?_⟩
    obtain ⟨e, y⟩ := y
    subst e y
    exact hs i σ _ hlt p
  . have e : i = n := by omega
    subst e
    exact .inl ⟨Nat.le_refl _, hd σ H p⟩
theorem while_by {c : TT} {tb : TS} {D : Ends} {σ : St} {H : Hp} (Pv : St -> Hp -> Prop) (μ : St -> Hp -> Nat) (h0 : Pv σ H)
    (hs : ∀ σ H, Pv σ H -> c σ H fun b H1 => if b = true then tb { D with nx := fun σ' H' => Pv σ' H' /\ μ σ' H' < μ σ H, ct := fun σ' H' => Pv σ' H' /\ μ σ' H' < μ σ H, bk := D.nx } σ H1 else D.nx σ H1)
    (mono : ∀ σ H Q Q', (∀ b H1, Q b H1 -> Q' b H1) -> c σ H Q -> c σ H Q') : tWhile c tb D σ H := by
  refine ⟨fun m σ H => m = μ σ H /\ Pv σ H, ⟨_, rfl, h0⟩, ?_⟩
  rintro m σ H ⟨rfl, p⟩
  refine mono σ H _ _ (fun b H1 q => ?_) (hs σ H p)
  cases b with
  | true => exact ⟨_, fun σ' H' ⟨p', l⟩ => ⟨_, l, rfl, p'⟩, q⟩
  | false => exact q
end L2
namespace L2
open PySem PySem.Spec PyProof.Rows
noncomputable abbrev R2 := V -> V -> Hp -> VK -> Prop
noncomputable def OpR (X : Cx) (f : Value -> Value -> Sem Value) (r : R2) : Prop :=
  ∀ (pins : List (Addr × Obj)) (s : Shared) (σ : St) (H : Hp) (x y : V) (v u : Value) (Q : VK), Inv X pins σ H s -> RelV x v -> RelV y u -> r x y H Q ->
    wpAny (model X.prog X.w) X.A (f v u) (EP X pins σ Q) X.xe s
noncomputable def UnR (X : Cx) (f : Value -> Sem Value) (r : V -> Hp -> VK -> Prop) : Prop :=
  ∀ (pins : List (Addr × Obj)) (s : Shared) (σ : St) (H : Hp) (x : V) (v : Value) (Q : VK), Inv X pins σ H s -> RelV x v -> r x H Q ->
    wpAny (model X.prog X.w) X.A (f v) (EP X pins σ Q) X.xe s
noncomputable def CallR (X : Cx) (f : Value) (r : List V -> Hp -> VK -> Prop) : Prop :=
  ∀ (pins : List (Addr × Obj)) (s : Shared) (σ : St) (H : Hp) (xs : List V) (us : List Value) (Q : VK), Inv X pins σ H s -> Vals xs us -> r xs H Q ->
    wpAny (model X.prog X.w) X.A (call f us) (EP X pins σ Q) X.xe s
noncomputable def tOp (r : R2) (ta tb : TE) : TE := fun σ H Q => ta σ H fun x H1 => tb σ H1 fun y H2 => r x y H2 Q
noncomputable def tUn (r : V -> Hp -> VK -> Prop) (ta : TE) : TE := fun σ H Q => ta σ H fun x H1 => r x H1 Q
noncomputable def rI (C : Int -> Int -> Prop) (g : Int -> Int -> V) : R2 := fun x y H Q => ∃ i j, x = .int i /\ y = .int j /\ C i j /\ Q (g i j) H
noncomputable def rI0 (g : Int -> Int -> V) : R2 := fun x y H Q => ∃ i j, x = .int i /\ y = .int j /\ Q (g i j) H
noncomputable def rU (g : Int -> V) : V -> Hp -> VK -> Prop := fun x H Q => ∃ i, x = .int i /\ Q (g i) H
section
variable {X : Cx} {a b c : Expr} {ta tb tc : TE} {pos : Pos}
theorem binT (ha : PE X a ta) (hb : PE X b tb) {pins : List (Addr × Obj)} {s : Shared} {σ : St} {H : Hp} {R : V -> V -> Hp -> Prop} (I : Inv X pins σ H s)
    (h : ta σ H fun x H1 => tb σ H1 fun y H2 => R x y H2) {Q : Value -> Shared -> Prop} {f : Value -> Value -> Sem Value}
    (hf : ∀ v u s2 x y H2, Inv X pins σ H2 s2 -> RelV x v -> RelV y u -> R x y H2 -> wpAny (model X.prog X.w) X.A (f v u) Q X.xe s2) :
    wpAny (model X.prog X.w) X.A (eval a X.env) (fun v s₁ => wpAny (model X.prog X.w) X.A (eval b X.env) (fun u s₂ => wpAny (model X.prog X.w) X.A (f v u) Q X.xe s₂) X.xe s₁) X.xe s := by
  refine thn (ha pins s σ H _ I h) fun v s1 ⟨x, H1, I1, r1, q1⟩ => ?_
  refine thn (hb pins s1 σ H1 _ I1 q1) fun u s2 ⟨y, H2, I2, r2, q2⟩ => ?_
  exact hf v u s2 x y H2 I2 r1 r2 q2
theorem pe_op {op : Operator} {r : R2} (ho : OpR X (binaryOp op) r) (ha : PE X a ta) (hb : PE X b tb) : PE X (.BinOp a op b pos) (tOp r ta tb) := by
  intro pins s σ H Q I h
  exact wpAny_BinOp (binT ha hb I h fun v u s2 x y H2 I2 rx ry q => ho pins s2 σ H2 x y v u Q I2 rx ry q)
theorem pe_un {op : UnaryOp} {r : V -> Hp -> VK -> Prop} (ho : UnR X (unaryOp op) r) (ha : PE X a ta) : PE X (.UnaryOp op a pos) (tUn r ta) := by
  intro pins s σ H Q I h
  exact UnaryOp_ (thn (ha pins s σ H _ I h) fun v s1 ⟨x, H1, I1, r1, q1⟩ => ho pins s1 σ H1 x v Q I1 r1 q1)
theorem opI {f : Value -> Value -> Sem Value} {C : Int -> Int -> Prop} {g : Int -> Int -> Int}
    (rule : ∀ (i j : Int) (t u : Tok) (s : Shared) (Q : Value -> Shared -> Prop) (E : Value -> Shared -> Prop), C i j -> Q (.int (g i j) s.toks) { s with toks := s.toks + 1 } -> wpAny (model X.prog X.w) X.A (f (.int i t) (.int j u)) Q E s) :
    OpR X f (rI C fun i j => .int (g i j)) := by
  intro pins s σ H x y v u Q I rx ry h
  obtain ⟨i, j, rfl, rfl, hc, q⟩ := h
  obtain ⟨t, rfl⟩ := rx
  obtain ⟨t', rfl⟩ := ry
  exact rule i j t t' s _ _ hc ⟨.int (g i j), H, I.tok _, ⟨_, rfl⟩, q⟩
theorem opI0 {f : Value -> Value -> Sem Value} {g : Int -> Int -> Int}
    (rule : ∀ (i j : Int) (t u : Tok) (s : Shared) (Q : Value -> Shared -> Prop) (E : Value -> Shared -> Prop), Q (.int (g i j) s.toks) { s with toks := s.toks + 1 } -> wpAny (model X.prog X.w) X.A (f (.int i t) (.int j u)) Q E s) :
    OpR X f (rI0 fun i j => .int (g i j)) := by
  intro pins s σ H x y v u Q I rx ry h
  obtain ⟨i, j, rfl, rfl, q⟩ := h
  obtain ⟨t, rfl⟩ := rx
  obtain ⟨t', rfl⟩ := ry
  exact rule i j t t' s _ _ ⟨.int (g i j), H, I.tok _, ⟨_, rfl⟩, q⟩
theorem opB0 {f : Value -> Value -> Sem Value} {g : Int -> Int -> Bool}
    (rule : ∀ (i j : Int) (t u : Tok) (s : Shared) (Q : Value -> Shared -> Prop) (E : Value -> Shared -> Prop), Q (.bool (g i j)) s -> wpAny (model X.prog X.w) X.A (f (.int i t) (.int j u)) Q E s) :
    OpR X f (rI0 fun i j => .bl (g i j)) := by
  intro pins s σ H x y v u Q I rx ry h
  obtain ⟨i, j, rfl, rfl, q⟩ := h
  obtain ⟨t, rfl⟩ := rx
  obtain ⟨t', rfl⟩ := ry
  exact rule i j t t' s _ _ ⟨.bl (g i j), H, I, rfl, q⟩
noncomputable def CPow (i j : Int) : Prop := 0 <= j /\ j <= 1000000 /\ i.natAbs < 2 ^ 64
noncomputable def CMul (i j : Int) : Prop := (-(2 ^ 64) < i /\ i < 2 ^ 64) \/ (-(2 ^ 64) < j /\ j < 2 ^ 64)
theorem CMul.ok {i j : Int} (h : CMul i j) : IntMulOk i j := by
  rcases h with ⟨h1, h2⟩ | ⟨h1, h2⟩
  . exact .of_left (intBits_le_64 h1 h2)
  . exact .of_right (intBits_le_64 h1 h2)
theorem op_add : OpR X (binaryOp .Add) (rI0 fun i j => .int (i + j)) := opI0 fun _ _ _ _ _ _ _ q => add_int q
theorem op_sub : OpR X (binaryOp .Sub) (rI0 fun i j => .int (i - j)) := opI0 fun _ _ _ _ _ _ _ q => sub_int q
theorem op_mod : OpR X (binaryOp .Mod) (rI (fun _ j => 0 < j) fun i j => .int (i % j)) := opI fun i j _ _ _ _ _ hc q => by
  have h1 : (0 : Int) < j := hc
  exact mod_int' (by omega) (by rw [Int.fmod_eq_emod_of_nonneg i (by omega)]; exact q)
theorem op_pow : OpR X (binaryOp .Pow) (rI CPow fun i j => .int (i ^ j.toNat)) := opI fun _ _ _ _ _ _ _ hc q => pow_int_small hc.1 hc.2.1 hc.2.2 q
theorem unI {f : Value -> Sem Value} {g : Int -> Int}
    (rule : ∀ (i : Int) (t : Tok) (s : Shared) (Q : Value -> Shared -> Prop) (E : Value -> Shared -> Prop), Q (.int (g i) s.toks) { s with toks := s.toks + 1 } -> wpAny (model X.prog X.w) X.A (f (.int i t)) Q E s) :
    UnR X f (rU fun i => .int (g i)) := by
  intro pins s σ H x v Q I rx h
  obtain ⟨i, rfl, q⟩ := h
  obtain ⟨t, rfl⟩ := rx
  exact rule i t s _ _ ⟨.int (g i), H, I.tok _, ⟨_, rfl⟩, q⟩
theorem un_neg : UnR X (unaryOp .USub) (rU fun i => .int (-i)) := unI fun _ _ _ _ _ q => neg_int q
end
noncomputable def scal : V -> V -> Bool
  | .non, .non => true | .non, .int _ => true | .int _, .non => true | .non, .bl _ => true | .bl _, .non => true | .non, .str _ => true | .str _, .non => true
  | .int _, .int _ => true | .bl _, .bl _ => true | .str _, .str _ => true | .byt _, .byt _ => true
  | .int _, .str _ => true | .str _, .int _ => true | .bl _, .str _ => true | .str _, .bl _ => true
  | _, _ => false
noncomputable def rEq : R2 := fun x y H Q => scal x y = true /\ Q (.bl (decide (x = y))) H
noncomputable def rNe : R2 := fun x y H Q => scal x y = true /\ Q (.bl (!decide (x = y))) H
theorem dec_int {i j : Int} : decide (V.int i = V.int j) = (i == j) := by
  rw [Bool.eq_iff_iff]
  simp
theorem dec_bl {i j : Bool} : decide (V.bl i = V.bl j) = (i == j) := by
  rw [Bool.eq_iff_iff]
  simp
theorem dec_str {i j : Str} : decide (V.str i = V.str j) = (i == j) := by
  rw [Bool.eq_iff_iff]
  simp
theorem dec_byt {i j : Array UInt8} : decide (V.byt i = V.byt j) = (i.toList == j.toList) := by
  rw [Bool.eq_iff_iff]
  cases i
  cases j
  simp
section
variable {X : Cx} {a b c : Expr} {ta tb tc : TE} {pos : Pos}
theorem fin_bl {pins : List (Addr × Obj)} {σ : St} {H : Hp} {s : Shared} {Q : VK} {k k' : Bool} (I : Inv X pins σ H s) (q : Q (.bl k) H) (e : k = k') : EP X pins σ Q (.bool k') s := by
  subst e
  exact ⟨.bl k, H, I, rfl, q⟩
theorem op_eq : OpR X (compareOp .Eq) rEq := by
  intro pins s σ H x y v u Q I rx ry h
  obtain ⟨hs, q⟩ := h
  cases x with
  | non =>
    cases rx
    cases y with
    | non => cases ry; exact PySem.EqNone.eq_none_none (fin_bl I q (by simp))
    | bl j => cases ry; exact PySem.EqNone.eq_none_bool (fin_bl I q (by simp))
    | int j => obtain ⟨t', rfl⟩ := ry; exact PySem.EqNone.eq_none_int (fin_bl I q (by simp))
    | str j => obtain ⟨t', rfl⟩ := ry; exact PySem.EqNone.eq_none_str (fin_bl I q (by simp))
    | _ => exact absurd (show false = true from hs) Bool.false_ne_true
  | bl i =>
    cases rx
    cases y with
    | non => cases ry; exact PySem.EqNone.eq_bool_none (fin_bl I q (by simp))
    | bl j => cases ry; exact eq_bool (fin_bl I q dec_bl)
    | str j => obtain ⟨t', rfl⟩ := ry; exact PySem.EqMixed.eq_bool_str (fin_bl I q (by simp))
    | _ => exact absurd (show false = true from hs) Bool.false_ne_true
  | int i =>
    obtain ⟨t, rfl⟩ := rx
    cases y with
    | non => cases ry; exact PySem.EqNone.eq_int_none (fin_bl I q (by simp))
    | int j => obtain ⟨t', rfl⟩ := ry; exact eq_int (fin_bl I q dec_int)
    | str j => obtain ⟨t', rfl⟩ := ry; exact PySem.EqMixed.eq_int_str (fin_bl I q (by simp))
    | _ => exact absurd (show false = true from hs) Bool.false_ne_true
  | str i =>
    obtain ⟨t, rfl⟩ := rx
    cases y with
    | non => cases ry; exact PySem.EqNone.eq_str_none (fin_bl I q (by simp))
    | bl j => cases ry; exact PySem.EqMixed.eq_str_bool (fin_bl I q (by simp))
    | int j => obtain ⟨t', rfl⟩ := ry; exact PySem.EqMixed.eq_str_int (fin_bl I q (by simp))
    | str j => obtain ⟨t', rfl⟩ := ry; exact eq_str (fin_bl I q dec_str)
    | _ => exact absurd (show false = true from hs) Bool.false_ne_true
  | byt i =>
    obtain ⟨t, rfl⟩ := rx
    cases y with
    | byt j => obtain ⟨t', rfl⟩ := ry; exact PySem.W.eq_bytes (fin_bl I q dec_byt)
    | _ => exact absurd (show false = true from hs) Bool.false_ne_true
  | _ => cases y <;> exact absurd (show false = true from hs) Bool.false_ne_true
theorem op_ne : OpR X (compareOp .NotEq) rNe := by
  intro pins s σ H x y v u Q I rx ry h
  obtain ⟨hs, q⟩ := h
  cases x with
  | non =>
    cases rx
    cases y with
    | non => cases ry; exact PySem.EqNone.ne_none_none (fin_bl I q (by simp))
    | bl j => cases ry; exact PySem.EqNone.ne_none_bool (fin_bl I q (by simp))
    | int j => obtain ⟨t', rfl⟩ := ry; exact PySem.EqNone.ne_none_int (fin_bl I q (by simp))
    | str j => obtain ⟨t', rfl⟩ := ry; exact PySem.EqNone.ne_none_str (fin_bl I q (by simp))
    | _ => exact absurd (show false = true from hs) Bool.false_ne_true
  | bl i =>
    cases rx
    cases y with
    | non => cases ry; exact PySem.EqNone.ne_bool_none (fin_bl I q (by simp))
    | bl j => cases ry; exact ne_bool (fin_bl I q (congrArg not dec_bl))
    | str j => obtain ⟨t', rfl⟩ := ry; exact PySem.EqMixed.ne_bool_str (fin_bl I q (by simp))
    | _ => exact absurd (show false = true from hs) Bool.false_ne_true
  | int i =>
    obtain ⟨t, rfl⟩ := rx
    cases y with
    | non => cases ry; exact PySem.EqNone.ne_int_none (fin_bl I q (by simp))
    | int j => obtain ⟨t', rfl⟩ := ry; exact ne_int (fin_bl I q (congrArg not dec_int))
    | str j => obtain ⟨t', rfl⟩ := ry; exact PySem.EqMixed.ne_int_str (fin_bl I q (by simp))
    | _ => exact absurd (show false = true from hs) Bool.false_ne_true
  | str i =>
    obtain ⟨t, rfl⟩ := rx
    cases y with
    | non => cases ry; exact PySem.EqNone.ne_str_none (fin_bl I q (by simp))
    | bl j => cases ry; exact PySem.EqMixed.ne_str_bool (fin_bl I q (by simp))
    | int j => obtain ⟨t', rfl⟩ := ry; exact PySem.EqMixed.ne_str_int (fin_bl I q (by simp))
    | str j => obtain ⟨t', rfl⟩ := ry; exact ne_str (fin_bl I q (congrArg not dec_str))
    | _ => exact absurd (show false = true from hs) Bool.false_ne_true
  | byt i =>
    obtain ⟨t, rfl⟩ := rx
    cases y with
    | byt j => obtain ⟨t', rfl⟩ := ry; exact PySem.W.ne_bytes (fin_bl I q (congrArg not dec_byt))
    | _ => exact absurd (show false = true from hs) Bool.false_ne_true
  | _ => cases y <;> exact absurd (show false = true from hs) Bool.false_ne_true
theorem op_lt : OpR X (compareOp .Lt) (rI0 fun i j => .bl (decide (i < j))) := opB0 fun _ _ _ _ _ _ _ q => lt_int q
theorem op_gt : OpR X (compareOp .Gt) (rI0 fun i j => .bl (decide (j < i))) := opB0 fun _ _ _ _ _ _ _ q => gt_int q
theorem op_ge : OpR X (compareOp .GtE) (rI0 fun i j => .bl (decide (j <= i))) := opB0 fun _ _ _ _ _ _ _ q => ge_int q
theorem nomark (b : Expr) {op : CmpOp} (h : op ≠ .In := by decide) (h2 : op ≠ .NotIn := by decide) : behindInMarks op b = false := by
  have e1 : (op == CmpOp.In) = false := by cases op <;> first | rfl | exact absurd rfl h
  have e2 : (op == CmpOp.NotIn) = false := by cases op <;> first | rfl | exact absurd rfl h2
  cases b <;> simp [behindInMarks, e1, e2]
theorem pe_cmpR {op : CmpOp} {r : R2} (ho : OpR X (compareOp op) r) (ha : PE X a ta) (hb : PE X b tb) (hm : behindInMarks op b = false) : PE X (.Compare a [op] [b] pos) (tOp r ta tb) := by
  intro pins s σ H Q I h
  exact wpAny_Compare1 (binT ha hb I h fun v u s2 x y H2 I2 rx ry q => ho pins s2 σ H2 x y v u Q I2 rx ry q) hm
noncomputable def tTest (t : TE) : TT := fun σ H Q => t σ H fun x H' => ∃ k, x = .bl k /\ Q k H'
theorem pt_cmpR {op : CmpOp} {r : R2} (ho : OpR X (compareOp op) r) (ha : PE X a ta) (hb : PE X b tb) (hm : behindInMarks op b = false) : PT X (.Compare a [op] [b] pos) (tTest (tOp r ta tb)) := by
  intro pins s σ H Q I h
  refine wpAny_isTrue_Compare1 (thn (ha pins s σ H _ I h) fun v s1 ⟨x, H1, I1, r1, q1⟩ => thn (hb pins s1 σ H1 _ I1 q1) fun u s2 ⟨y, H2, I2, r2, q2⟩ =>
    thn (ho pins s2 σ H2 x y v u _ I2 r1 r2 q2) fun c s3 ⟨z, H3, I3, r3, k, e, q3⟩ => ?_) hm
  subst e
  cases r3
  exact wpAny_truthy_bool ⟨H3, I3, q3⟩
theorem line63 : (sizeLine : Nat) < 2 ^ 63 := by rw [sizeLine_eq]; decide
theorem vals1 {x : V} {us : List Value} (r : Vals [x] us) : ∃ u, us = [u] /\ RelV x u := by
  cases r with
  | cons r1 r2 => cases r2; exact ⟨_, rfl, r1⟩
theorem call_abs : CallR X (.builtin "abs") (fun xs H Q => ∃ i, xs = [.int i] /\ Q (.int (if i < 0 then -i else i)) H) := by
  intro pins s σ H xs us Q I r h
  obtain ⟨i, rfl, q⟩ := h
  obtain ⟨u, rfl, t, rfl⟩ := vals1 r
  exact call_abs_int fun u tk => ⟨.int (if i < 0 then -i else i), H, I.tok _, ⟨_, rfl⟩, q⟩
theorem call_int1 : CallR X (.type "int") (fun xs H Q => (∃ i, xs = [.int i] /\ Q (.int i) H) \/ ∃ k, xs = [.bl k] /\ Q (.int (if k then 1 else 0)) H) := by
  intro pins s σ H xs us Q I r h
  rcases h with ⟨i, rfl, q⟩ | ⟨k, rfl, q⟩
  . obtain ⟨u, rfl, t, rfl⟩ := vals1 r
    exact call_int_int ⟨.int i, H, I, ⟨_, rfl⟩, q⟩
  . obtain ⟨u, rfl, r1⟩ := vals1 r
    cases r1
    exact call_int_bool ⟨.int (if k then 1 else 0), H, I.tok _, ⟨_, rfl⟩, q⟩
end
end L2
namespace L2
open PySem PySem.Spec PyProof.Rows
section
variable {prog : Program} {w : World} {A : Around} {E : Value -> Shared -> Prop} {s : Shared} {K : PySem.W.Frag} {x dx C f : Addr} {mA : Str -> Option Value} {name : Str} {v : Value}
end
theorem RelO.some_of {v : V} {o : Option Value} (r : RelO (some v) o) : ∃ u, o = some u /\ RelV v u := by
  cases o with
  | none => exact (show False from r).elim
  | some u => exact ⟨u, rfl, r⟩
section
variable {P : Program} {w : World} {H H' : Hp} {h h' : Heap} {a C dx : Addr} {fs : List (Str × V)}
end
structure Con (K : PySem.W.Frag) (C : Addr) (f : Str) (v : V) (u : Value) : Prop where
  at_ : PySem.W.findIn K (.ref C) f = some (some u)
  rel : RelV v u
  get : PySem.W.specialIn K u "__get__" = some none
  cp : PySem.W.copiedNames.contains f = false
section
variable {X : Cx} {pins : List (Addr × Obj)} {σ : St} {H : Hp} {s : Shared} {a C dx : Addr} {fs : List (Str × V)} {f : Str} {v : V} {A : Around} {E : Value -> Shared -> Prop}
end
section
variable {X : Cx} {o e value : Expr} {f : Str} {pos pos' : Pos} {ta : TE}
end
section
variable {X : Cx} {pins : List (Addr × Obj)} {σ : St} {H : Hp} {s : Shared} {A : Around} {E : Value -> Shared -> Prop} {Q : Value -> Shared -> Prop} {c : Value} {b : Bool}
end
end L2
namespace L2
open PySem PySem.Spec PyProof.Rows
structure Room (k : Nat) (A : Around) : Prop where
  hd : A.handled = none
  dp : A.depth + 3 * k + 5 < recursionLimit
  un : A.units + 16 * k + 200 < cLine
theorem Room.mono {j k : Nat} {A : Around} (r : Room k A) (h : j <= k) : Room j A := ⟨r.hd, by have := r.dp; omega, by have := r.un; omega⟩
theorem Room.deeper {k : Nat} {A : Around} (r : Room (k + 1) A) (env : Env) : Room k (A.deeper env) :=
  ⟨r.hd, by have := r.dp; show A.depth + 1 + 3 * k + 5 < _; omega, by have := r.un; show A.units + 3 + 16 * k + 200 < _; omega⟩
theorem Room.depth {k : Nat} {A : Around} (r : Room k A) : A.depth < recursionLimit := by have := r.dp; omega
theorem Room.units {k : Nat} {A : Around} (r : Room k A) : A.units + 64 < cLine := by have := r.un; omega
noncomputable def tNil : TA := fun _ H Q => Q [] H
noncomputable def tCons (ta : TE) (tr : TA) : TA := fun σ H Q => ta σ H fun x H1 => tr σ H1 fun xs H2 => Q (x :: xs) H2
section
variable {X : Cx} {e : Expr} {es : List Expr} {te : TE} {t : TA} {pos : Pos}
theorem pa_nil : PA X [] tNil := fun _ _ _ _ H Q I h => Calls.spliced_nil ⟨[], H, I, .nil, h⟩
theorem pa_cons (ha : PE X e te) (hr : PA X es t) (hs : starEach (e :: es) X.env = (false, eval e X.env) :: starEach es X.env := by rfl) : PA X (e :: es) (tCons te t) := by
  intro pos pins s σ H Q I h
  rw [hs]
  show wpAny _ _ (spliced ((false, eval e X.env) :: backTo pos (starEach es X.env))) _ _ s
  refine Calls.spliced_cons (thn (ha pins s σ H _ I h) fun u s1 ⟨x, H1, I1, r1, q1⟩ => ?_)
  exact thn (hr pos pins s1 σ H1 _ I1 q1) fun us s2 ⟨xs, H2, I2, r2, q2⟩ => ⟨x :: xs, H2, I2, .cons r1 r2, q2⟩
noncomputable def tTup (t : TA) : TE := fun σ H Q => t σ H fun xs H1 => xs.length <= sizeLine /\ ∀ p, H1 p = none -> Q (.ref p) (upd H1 p (.tup xs))
noncomputable def tLst (t : TA) : TE := fun σ H Q => t σ H fun xs H1 => xs.length <= sizeLine /\ ∀ p, H1 p = none -> Q (.ref p) (upd H1 p (.lst xs))
theorem pe_tup {x1} (h : PA X es t) : PE X (.Tuple es x1 pos) (tTup t) := by
  intro pins s σ H Q I hq
  refine wpAny_Tuple_spliced (thn (h pos pins s σ H _ I hq) fun us s1 ⟨xs, H1, I1, r, z, q⟩ => ⟨by rw [<- r.length]; exact z, ?_⟩)
  have hf : H1 s1.heap.objs.size = none := I1.hok.fresh (Nat.le_refl _)
  refine ⟨.ref s1.heap.objs.size, upd H1 s1.heap.objs.size (.tup xs), I1.laid (t' := s1.toks) (fun b u e => Heap.get?_push_of_some _ e) (Nat.le_refl _) ?_, rfl, q _ hf⟩
  exact ⟨z, us, r, ⟨_, Heap.get?_push_size _ rfl, rfl, _, rfl⟩⟩
theorem pe_lst (h : PA X es t) : PE X (.List es pos) (tLst t) := by
  intro pins s σ H Q I hq
  refine wpAny_List_spliced (thn (h pos pins s σ H _ I hq) fun us s1 ⟨xs, H1, I1, r, z, q⟩ => ⟨by rw [<- r.length]; exact z, ?_⟩)
  have hf : H1 s1.heap.objs.size = none := I1.hok.fresh (Nat.le_refl _)
  refine ⟨.ref s1.heap.objs.size, upd H1 s1.heap.objs.size (.lst xs), I1.laid (t' := s1.toks) (fun b u e => Heap.get?_push_of_some _ e) (Nat.le_refl _) ?_, rfl, q _ hf⟩
  exact ⟨z, us, 0, r, Heap.get?_push_size _ rfl⟩
end
noncomputable abbrev Sp := List V -> Hp -> VK -> XK -> Prop
noncomputable abbrev CXT := List Env -> Hp -> Shared -> XK -> Value -> Shared -> Prop
structure Env0 (P : Program) (w : World) (K : PySem.W.Frag) (mg : Str -> Option Value) (base : Heap) (A : Around) (outer : List Env) (s : Shared) (H : Hp) : Prop where
  frames : A.frames = some outer
  mod : Mod K mg base
  bs : ∀ b o, base.get? b = some o -> s.heap.get? b = some o /\ H b = none
  bsz : base.objs.size <= s.heap.objs.size
  funs : s.heap.FunFrames base outer
  frf : ∀ b ∈ frs outer, H b = none
  hok : HOk P w H s.heap
  bare : AllBare s.gens
noncomputable def CE (outer : List Env) (P : Program) (w : World) (H : Hp) (s : Shared) (Q : VK) (u : Value) (s' : Shared) : Prop :=
  ∃ v H', s'.os = s.os /\ AllBare s'.gens /\ Un (frs outer) [] H H' s.heap s'.heap /\ HOk P w H' s'.heap /\ RelV v u /\ Q v H'
noncomputable def CR (CX : CXT) (outer : List Env) (P : Program) (w : World) (H : Hp) (s : Shared) (Q : VK) (E : XK) (r : Result) (s' : Shared) : Prop :=
  match r with
  | .ok (.ret u) => CE outer P w H s Q u s'
  | .ok _ => False
  | .error e => CX outer H s E e s'
structure FnOk (P : Program) (w : World) (K : PySem.W.Frag) (mg : Str -> Option Value) (base : Heap) (CX : CXT) (k : Nat) (f : Addr) (fd : FuncData) (ps : List Str) (sp : Sp) : Prop where
  len : ∀ vs H Q E, sp vs H Q E -> vs.length = ps.length
  run : ∀ (A : Around) (outer : List Env) (s : Shared) (H : Hp) (args : Args) (us : List Value) (vs : List V) (Q : VK) (E : XK), Room k A -> Env0 P w K mg base A outer s H -> BindsTo s fd args (ps.zip us) -> Vals vs us -> sp vs H Q E ->
    codeAny (model P w) A (.call (.ref f) args) (CR CX outer P w H s Q E) s
section
variable {X : Cx} {pins : List (Addr × Obj)} {σ : St} {H : Hp} {s s' : Shared}
theorem Inv.env0 (I : Inv X pins σ H s) : Env0 X.prog X.w X.K X.mg X.base X.A X.stack s H :=
  ⟨I.ok.frames, I.ok.mod, I.bs, Nat.le_trans I.ok.bsz I.sz, I.stack, I.stkFree, I.hok, I.bare⟩
theorem Inv.after {Q : VK} {u : Value} (I : Inv X pins σ H s) (h : CE X.stack X.prog X.w H s Q u s') : EP X pins σ Q u s' := by
  obtain ⟨v, H', os, bare, un, hok, r, q⟩ := h
  obtain ⟨hh, g, d, t, os'⟩ := s'
  obtain rfl : os' = s.os := os
  exact ⟨v, H', I.call (h' := hh) (g' := g) (d' := d) (t' := t) (ch := []) un hok bare (fun b z => absurd z (by simp)), r, q⟩
end
noncomputable def tCall (sp : Sp) (dvs : List V) (E : XK) (t : TA) : TE := fun σ H Q => t σ H fun vs H1 => sp (vs ++ dvs) H1 Q E
noncomputable def Binds (K : PySem.W.Frag) (fd : FuncData) (ps : List Str) (ds : List Value) : Prop :=
  ∀ (s : Shared) (us : List Value), K.In s.heap -> (us ++ ds).length = ps.length -> BindsTo s fd ⟨us, []⟩ (ps.zip (us ++ ds))
theorem Binds.all {K : PySem.W.Frag} {fd : FuncData} {ps : List Str} (h : ∀ us : List Value, us.length = ps.length -> bindArgs fd ⟨us, []⟩ = pure (ps.zip us)) : Binds K fd ps [] := fun s us _ hl => by
  rw [List.append_nil] at hl ⊢
  exact .of_eq (h us hl)
noncomputable def Passes (CX : CXT) (X : Cx) (E : XK) : Prop := ∀ (pins : List (Addr × Obj)) (σ : St) (H : Hp) (s : Shared) (e : Value) (s' : Shared), Inv X pins σ H s -> CX X.stack H s E e s' -> X.xe e s'
section
variable {X : Cx} {CX : CXT} {k : Nat} {f C : Addr} {fd : FuncData} {ps : List Str} {sp : Sp} {dvs : List V} {ds : List Value} {E : XK} {x m : Str} {p pos apos : Pos} {e o : Expr} {es : List Expr} {ta : TE} {t : TA}
theorem run_fn {pins : List (Addr × Obj)} {σ : St} {H : Hp} {s : Shared} {Q : VK} {us : List Value} {vs : List V} (F : FnOk X.prog X.w X.K X.mg X.base CX k f fd ps sp) (hr : Room k X.A) (hb : Binds X.K fd ps ds) (hd : Vals dvs ds) (hx : Passes CX X E)
    (I : Inv X pins σ H s) (r : Vals vs us) (h : sp (vs ++ dvs) H Q E) : wpAny (model X.prog X.w) X.A (call (.ref f) us) (EP X pins σ Q) X.xe s := by
  have r2 : Vals (vs ++ dvs) (us ++ ds) := r.append hd
  have hl : (us ++ ds).length = ps.length := by rw [<- r2.length]; exact F.len _ _ _ _ h
  refine wpAny_call (codeAny_mono (F.run X.A X.stack s H ⟨us, []⟩ (us ++ ds) (vs ++ dvs) Q E hr I.env0 (hb s us I.kIn hl) r2 h) fun r s' hq => ?_)
  cases r with
  | error e => exact hx pins σ H s e s' I hq
  | ok fl =>
    cases fl with
    | ret u => exact I.after hq
    | next => exact False.elim hq
    | brk => exact False.elim hq
    | cont => exact False.elim hq
theorem pe_call (F : FnOk X.prog X.w X.K X.mg X.base CX k f fd ps sp) (hr : Room k X.A) (hg : Gl X x) (hm : X.mg x = some (.ref f)) (hk : PySem.W.keepIn X.K (.ref f) = true) (hb : Binds X.K fd ps ds) (hd : Vals dvs ds) (hx : Passes CX X E)
    (ha : PA X (e :: es) t) (hdb : (x == ("__debug__" : Str)) = false := by decide) (he : starEach (e :: es) X.env = (false, eval e X.env) :: starEach es X.env := by rfl) (hpl : (backTo pos (starEach es X.env)).any (·.1) = false := by rfl) :
    PE X (.Call (.Name x p) (e :: es) [] pos) (tCall sp dvs E t) := by
  intro pins s σ H Q I h
  refine wpAny_Call_Name_kw (ld_glob I hg hm ?_ hdb)
  refine PySem.W.callWith_K (h₀ := X.base) I.ok.mod.kin hk (thn (ha pos pins s σ H _ I h) fun us s1 ⟨vs, H1, I1, r, q⟩ => ⟨I1.kIn, ?_⟩) he hpl
  exact run_fn F hr hb hd hx I1 r q
end
section
variable {X : Cx} {CX : CXT} {k : Nat} {f C : Addr} {fd : FuncData} {ps : List Str} {sp : Sp} {E : XK} {x m : Str} {p pos apos : Pos} {e o : Expr} {es : List Expr} {te ta : TE} {t tk : TA} {nm : Option Str}
variable {g : List Value -> List Value -> List Value}
end
structure FnScope (N P : List Str) (sc : Scope) : Prop where
  kind : sc.kind = .function
  co : sc.isCoroutine = false
  gen : sc.isGenerator = false
  nd : N.Nodup
  pre : N.take P.length = P
  par : ∀ x ∈ P, sc.names.lookup x = some .local \/ sc.names.lookup x = some .cell
  nofree : ∀ y ∈ sc.names, y.2 ≠ .free
theorem bindL_out {kindOf : Str -> Option NameKind} {x : Str} : ∀ {binds : List (Str × Value)} {m : Str -> Option Value}, (∀ v, (x, v) ∉ binds) -> bindL kindOf binds m x = m x
  | [], _, _ => rfl
  | (n, v) :: r, m, h => by
    unfold bindL
    rw [bindL_out fun w hw => h w (List.mem_cons_of_mem _ hw)]
    split
    . have : x ≠ n := by rintro rfl; exact h v List.mem_cons_self
      simp [this]
    . rfl
theorem bindC_out {kindOf : Str -> Option NameKind} {x : Str} : ∀ {binds : List (Str × Value)} {m : Str -> Option Value}, (∀ v, (x, v) ∉ binds) -> bindC kindOf binds m x = m x
  | [], _, _ => rfl
  | (n, v) :: r, m, h => by
    unfold bindC
    rw [bindC_out fun w hw => h w (List.mem_cons_of_mem _ hw)]
    split
    . rfl
    . have : x ≠ n := by rintro rfl; exact h v List.mem_cons_self
      simp [this]
theorem bindL_get {kindOf : Str -> Option NameKind} {x : Str} {v : Value} : ∀ {P : List Str} {vs : List Value} {i : Nat} {m : Str -> Option Value}, P.Nodup -> P[i]? = some x -> vs[i]? = some v -> kindOf x = some .local ->
    bindL kindOf (P.zip vs) m x = some v
  | [], _, _, _, _, h, _, _ => by simp at h
  | _ :: _, [], _, _, _, _, h, _ => by simp at h
  | p :: P, w :: vs, 0, m, nd, h1, h2, hk => by
    simp at h1 h2; subst h1; subst h2
    show bindL kindOf ((p, w) :: P.zip vs) m p = _
    unfold bindL
    rw [bindL_out fun v hv => (List.nodup_cons.mp nd).1 (List.of_mem_zip hv).1, if_pos hk]
    simp
  | p :: P, w :: vs, i + 1, m, nd, h1, h2, hk => by
    show bindL kindOf ((p, w) :: P.zip vs) m x = _
    unfold bindL
    exact bindL_get (i := i) (List.nodup_cons.mp nd).2 (by simpa using h1) (by simpa using h2) hk
theorem bindC_get {kindOf : Str -> Option NameKind} {x : Str} {v : Value} : ∀ {P : List Str} {vs : List Value} {i : Nat} {m : Str -> Option Value}, P.Nodup -> P[i]? = some x -> vs[i]? = some v -> kindOf x ≠ some .local ->
    bindC kindOf (P.zip vs) m x = some v
  | [], _, _, _, _, h, _, _ => by simp at h
  | _ :: _, [], _, _, _, _, h, _ => by simp at h
  | p :: P, w :: vs, 0, m, nd, h1, h2, hk => by
    simp at h1 h2; subst h1; subst h2
    show bindC kindOf ((p, w) :: P.zip vs) m p = _
    unfold bindC
    rw [bindC_out fun v hv => (List.nodup_cons.mp nd).1 (List.of_mem_zip hv).1, if_neg hk]
    simp
  | p :: P, w :: vs, i + 1, m, nd, h1, h2, hk => by
    show bindC kindOf ((p, w) :: P.zip vs) m x = _
    unfold bindC
    exact bindC_get (i := i) (List.nodup_cons.mp nd).2 (by simpa using h1) (by simpa using h2) hk
noncomputable def start (N : List Str) (vs : List V) : St := vs.map some ++ List.replicate (N.length - vs.length) none
noncomputable def cxOf (CX : CXT) (P : Program) (w : World) (K : PySem.W.Frag) (mg : Str -> Option Value) (base : Heap) (N : List Str) (qual : Str) (scope : Scope) (f : Addr) (cd : Value) (A : Around) (outer : List Env) (s : Shared) (H : Hp) (E : XK) : Cx where
  prog := P
  w := w
  K := K
  mg := mg
  base := base
  A := A.deeper (envOfC qual scope s.heap.objs.size f cd)
  N := N
  s₀ := s
  H₀ := H
  env := envOfC qual scope s.heap.objs.size f cd
  outer := outer
  stack := envOfC qual scope s.heap.objs.size f cd :: outer
  ex := []
  calm := true
  fn := fun _ => true
  pn := []
  xe := fun e s' => wpAny (model P w) (A.deeper (envOfC qual scope s.heap.objs.size f cd)) (leaving (envOfC qual scope s.heap.objs.size f cd) e) (fun _ s'' => CX outer H s E e s'') (fun e' s'' => CX outer H s E e' s'') s'
theorem cell_has {sc : Scope} {n : Nat} {x : Str} (h : sc.names.lookup x = some .cell) : ∃ c, (cellsFrom n sc.names []).lookup x = some c := by
  have q := PySem.W.cellsFrom_some sc.names n [] (.inl h)
  exact Option.isSome_iff_exists.mp q
theorem inv_start {CX : CXT} {P : Program} {w : World} {K : PySem.W.Frag} {mg : Str -> Option Value} {base : Heap} {N ps : List Str} {qual : Str} {scope : Scope} {f : Addr} {cd : Value} {A : Around} {outer : List Env} {s s1 : Shared} {H : Hp} {E : XK} {us : List Value} {vs : List V}
    (S : FnScope N ps scope) (hd : A.handled = none) (e0 : Env0 P w K mg base A outer s H) (hl : vs.length = ps.length) (r : Vals vs us)
    (x : InCallC s s.heap.objs.size (bindL (envOfC qual scope s.heap.objs.size f cd).kindOf (ps.zip us) fun _ => none) (cellsFrom (s.heap.objs.size + 1) scope.names []) (bindC (envOfC qual scope s.heap.objs.size f cd).kindOf (ps.zip us) fun _ => none) s1) :
    Inv (cxOf CX P w K mg base N qual scope f cd A outer s H E) [] (start N vs) H s1 := by
  have hpl : ps.length <= N.length := by have := congrArg List.length S.pre; rw [List.length_take] at this; omega
  obtain ⟨h1, tk, rfl, hk⟩ := x.done
  have noA : ∀ b : Addr, b ∉ (cxOf CX P w K mg base N qual scope f cd A outer s H E).ex := fun b z => absurd (show b ∈ ([] : List Addr) from z) (by simp)
  refine ⟨⟨e0.mod, S.kind, rfl, rfl, Nat.le_refl _, fun y z c h1 h2 => ?_, fun y hy => ?_, fun y c _ h => ?_, fun _ => hd, Around.frames_deeper e0.frames, .inr ⟨rfl, rfl⟩, fun b z => absurd z (noA b), e0.bs, e0.bsz, fun b _ _ => noA b, fun b z => absurd z (noA b), e0.funs, e0.frf⟩,
    rfl, e0.bare, Un.kept hk, ⟨_, x.toInCall.ns, fun i y v h1 h2 h3 => ?_⟩, fun y c h => ⟨_, x.cell y c h⟩, e0.hok.fresh (Nat.le_refl _), fun y c h => ?_, fun p hp => absurd (show p ∈ ([] : List (Addr × Obj)) from hp) (by simp), e0.hok.kept hk, ?_⟩
  . exact name_of_addr x.apart (PySem.mem_of_lookup h1) (PySem.mem_of_lookup h2)
  . have hy : scope.names.lookup y = some .cell \/ scope.names.lookup y = some .free := hy
    rcases hy with hy | hy
    . exact cell_has hy
    . exact absurd rfl (S.nofree _ (PySem.mem_of_lookup hy))
  . exact Nat.le_of_lt (x.above y c (PySem.mem_of_lookup h))
  . have hi : i < vs.length := by
      unfold start at h2
      by_cases hi : i < vs.length
      . exact hi
      . rw [List.getElem?_append_right (by simpa using hi)] at h2
        rw [List.getElem?_replicate] at h2
        split at h2 <;> cases h2
    have ha : vs[i]? = some v := by
      unfold start at h2
      rw [List.getElem?_append_left (by simpa using hi), List.getElem?_map] at h2
      cases e : vs[i]? with
      | none => rw [e] at h2; cases h2
      | some a => rw [e] at h2; cases h2; rfl
    obtain ⟨u, hu, rv⟩ := r.get ha
    have hp : ps[i]? = some y := by
      rw [<- S.pre, List.getElem?_take_of_lt (by omega)]; exact h1
    have ndP : ps.Nodup := by rw [<- S.pre]; exact S.nd.sublist (List.take_sublist _ _)
    refine ⟨u, rv, ?_⟩
    rcases S.par y (List.mem_of_getElem? hp) with k | k
    . exact .inl ⟨k, bindL_get ndP hp hu k⟩
    . obtain ⟨c, e⟩ := cell_has (n := s.heap.objs.size + 1) k
      refine .inr ⟨.inl k, c, e, ?_⟩
      have q := x.cell y c e
      rw [bindC_get ndP hp hu (by show scope.names.lookup y ≠ _; rw [k]; decide)] at q
      exact q
  . exact e0.hok.fresh (Nat.le_of_lt (x.above y c (PySem.mem_of_lookup h)))
  . unfold start
    show _ = N.length
    rw [List.length_append, List.length_map, List.length_replicate]
    omega
theorem fn_of {CX : CXT} {P : Program} {w : World} {K : PySem.W.Frag} {mg : Str -> Option Value} {base : Heap} {k : Nat} {f : Addr} {name qual : Str} {params : Arguments} {body : List Stmt} {scope : Scope} {dV kV doc pm cdv ct oc : Value} {an od : Option Addr}
    {osl : Array (Option Value)} {N ps : List Str} {sp : Sp} (lk : K.lookup f = some ⟨oc, od, .func (PySem.W.fnOf name qual params body scope dV kV doc pm an cdv ct), osl⟩) (hcd : PySem.W.codeIn K cdv qual = true) (S : FnScope N ps scope)
    (len : ∀ vs H Q E, sp vs H Q E -> vs.length = ps.length)
    (hbody : ∀ (A : Around) (outer : List Env) (s : Shared) (H : Hp) (vs : List V) (Q : VK) (E : XK), Room k (A.deeper (envOfC qual scope s.heap.objs.size f cdv)) -> sp vs H Q E ->
      ∃ t, PSs (cxOf CX P w K mg base N qual scope f cdv A outer s H E) body t /\ t { nx := fun _ H' => Q .non H', rt := Q } (start N vs) H) :
    FnOk P w K mg base CX (k + 1) f (PySem.W.fnOf name qual params body scope dV kV doc pm an cdv ct) ps sp := by
  refine ⟨len, fun A outer s H args us vs Q E hr e0 hb r hsp => ?_⟩
  have hl := len _ _ _ _ hsp
  have KX : K.In s.heap := e0.mod.kin.keeps fun b o e => (e0.bs b o e).1
  have lim : s.heap.NoLimit := e0.mod.nolimit.keeps fun b o e => (e0.bs b o e).1
  have hkind : ∀ y ∈ ps.zip us, scope.names.lookup y.1 = some .local \/ (scope.names.lookup y.1 = some .cell /\ ((cellsFrom (s.heap.objs.size + 1) scope.names []).lookup y.1).isSome = true) := fun ⟨n, v⟩ hy => by
    rcases S.par n (List.of_mem_zip hy).1 with q | q
    . exact .inl q
    . exact .inr ⟨q, PySem.W.cellsFrom_some _ _ _ (.inl q)⟩
  refine codeAny_call_function hr.depth (KX _ _ lk) rfl S.co S.gen rfl (PySem.W.codeRec_of KX hcd) (hb _ _ _ _ ?_)
  refine wpAny_newFunctionEnv_cells S.kind hkind fun env he s1 x => ?_
  subst he
  refine ⟨lim.keeps x.toInCall.keep, codeAny_func ?_⟩
  obtain ⟨t, ht, hq⟩ := hbody A outer s H vs Q E (hr.deeper _) hsp
  have I : Inv (cxOf CX P w K mg base N qual scope f cdv A outer s H E) [] (start N vs) H s1 := inv_start S hr.hd e0 hl r x
  refine wpAny_mono (ht [] s1 (start N vs) H _ I hq) (fun fl s' hs => ?_) fun e s' hs => hs
  have fin : ∀ {σ' : St} {H' : Hp} {v : V} {u : Value}, Inv (cxOf CX P w K mg base N qual scope f cdv A outer s H E) [] σ' H' s' -> RelV v u -> Q v H' -> CE outer P w H s Q u s' :=
    fun {σ' H' v u} J rv q => ⟨v, H', J.os, J.bare, J.base, J.hok, rv, q⟩
  cases fl with
  | ret u =>
    obtain ⟨v, σ', H', J, rv, q⟩ := hs
    exact fin J rv q
  | next =>
    obtain ⟨σ', H', J, q⟩ := hs
    exact fin (v := V.non) (u := Value.none) J rfl q
  | brk =>
    obtain ⟨_, _, _, q⟩ := hs
    exact False.elim q
  | cont =>
    obtain ⟨_, _, _, q⟩ := hs
    exact False.elim q
end L2
namespace L2
open PySem PySem.Spec PyProof.Rows
section
variable {X : Cx} {x : Str} {p pos : Pos} {e : Expr} {es : List Expr} {t : TA} {id T : String} {r : List V -> Hp -> VK -> Prop}
noncomputable def tCB (r : List V -> Hp -> VK -> Prop) (t : TA) : TE := fun σ H Q => t σ H fun vs H1 => r vs H1 Q
theorem pe_callB (hc : CallR X (.builtin id) r) (hg : Gl X x) (hm : X.mg x = none) (hv : bootBuiltins x = some (.builtin id)) (ha : PA X (e :: es) t) (hn : x ≠ "__name__" := by decide) (hdb : (x == ("__debug__" : Str)) = false := by decide)
    (he : starEach (e :: es) X.env = (false, eval e X.env) :: starEach es X.env := by rfl) (hpl : (backTo pos (starEach es X.env)).any (·.1) = false := by rfl) : PE X (.Call (.Name x p) (e :: es) [] pos) (tCB r t) := by
  intro pins s σ H Q I h
  refine wpAny_Call_Name_kw (ld_blt I hg hm hv ?_ hn hdb)
  exact PyProof.Rows.callWith_builtin1 (thn (ha pos pins s σ H _ I h) fun us s1 ⟨vs, H1, I1, r1, q1⟩ => hc pins s1 σ H1 vs us Q I1 r1 q1) he hpl
theorem pe_callTy (hc : CallR X (.type T) r) (hg : Gl X x) (hm : X.mg x = none) (hv : bootBuiltins x = some (.type T)) (ha : PA X (e :: es) t) (hn : x ≠ "__name__" := by decide) (hdb : (x == ("__debug__" : Str)) = false := by decide)
    (he : starEach (e :: es) X.env = (false, eval e X.env) :: starEach es X.env := by rfl) (hpl : (backTo pos (starEach es X.env)).any (·.1) = false := by rfl) : PE X (.Call (.Name x p) (e :: es) [] pos) (tCB r t) := by
  intro pins s σ H Q I h
  refine wpAny_Call_Name_kw (ld_blt I hg hm hv ?_ hn hdb)
  exact PyProof.Rows.callWith_type1 (thn (ha pos pins s σ H _ I h) fun us s1 ⟨vs, H1, I1, r1, q1⟩ => hc pins s1 σ H1 vs us Q I1 r1 q1) he hpl
end
end L2
namespace HT
open PySem PyProof.Rows
section
open PySem.SeqAt
open PySem.AutoSeq1 (wpAny_loadPart')
open PySem.MeetsSeq PySem.MeetsSeq2 PySem.MeetsSeq3
end
section
variable {prog : Program} {w : World} {A : Around} {E : Value -> Shared -> Prop} {s : Shared}
theorem cat_tup {t b : Addr} {vs ws : List Value} {Q : Value -> Shared -> Prop} (ht : IsTup s.heap t vs.toArray) (hb : IsTup s.heap b ws.toArray) (hv : vs ≠ [])
    (h1 : ws = [] -> Q (.ref t) s) (h2 : ws ≠ [] -> Q (.ref s.heap.objs.size) { s with heap := s.heap.push { cls := .type "tuple", data := .seq (vs ++ ws).toArray } })
    (hsz : vs.length + ws.length <= sizeLine) : wpAny (model prog w) A (binaryOp .Add (.ref t) (.ref b)) Q E s := by
  obtain ⟨⟨cls, dd, data, sl⟩, ho, hc, n, hd⟩ := id ht
  obtain ⟨⟨cls2, dd2, data2, sl2⟩, ho2, hc2, n2, hd2⟩ := id hb
  simp only at hc hd hc2 hd2
  subst hc hd hc2 hd2
  have e : vs.toArray ++ ws.toArray = (vs ++ ws).toArray := by simp
  by_cases hw : ws = []
  . exact concat_meets ⟨_, ho, rfl⟩ ⟨_, ho2, rfl⟩ noFill_tuple_add seq_tuple_add PySem.F.slot_tuple_add PySem.F.entry_tuple_add (PySem.F.args_tuple_add_2 _ _)
      (tuple_addW1 t b vs.toArray ws.toArray n n2 dd dd2 sl sl2 (by simpa using hv) (by simp [hw])) ⟨ho, ho2, h1 hw⟩
  . refine concat_meets ⟨_, ho, rfl⟩ ⟨_, ho2, rfl⟩ noFill_tuple_add seq_tuple_add PySem.F.slot_tuple_add PySem.F.entry_tuple_add (PySem.F.args_tuple_add_2 _ _)
      (tuple_addW2 t b vs.toArray ws.toArray n n2 dd dd2 sl sl2 (by simpa using hv) (by simpa using hw) (by rw [List.size_toArray, List.size_toArray]; exact hsz)) ⟨ho, ho2, ?_⟩
    rw [e]
    exact h2 hw
noncomputable def sIx (n d : Nat) : Option Int -> Nat
  | none => d
  | some v => if v < 0 then (v + (n : Int)).toNat else min v.toNat n
end
end HT
namespace L2
open PySem PySem.Spec PyProof.Rows
noncomputable abbrev TO := St -> Hp -> (Option Int -> Hp -> Prop) -> Prop
noncomputable def PO (X : Cx) (e : Option Expr) (t : TO) : Prop :=
  ∀ (pins : List (Addr × Obj)) (s : Shared) (σ : St) (H : Hp) (Q : Option Int -> Hp -> Prop), Inv X pins σ H s -> t σ H Q ->
    wpAny (model X.prog X.w) X.A (evalPart e X.env) (fun u s' => ∃ o H', Inv X pins σ H' s' /\ IsPart u o /\ Q o H') X.xe s
noncomputable def tNoPart : TO := fun _ H Q => Q none H
noncomputable def tPart (t : TE) : TO := fun σ H Q => t σ H fun x H1 => ∃ i, x = .int i /\ Q (some i) H1
theorem intsAre_of {ns : List Int} : ∀ {us : List Value}, Vals (ns.map V.int) us -> IntsAre us ns := by
  induction ns with
  | nil => intro us r; rw [List.map_nil] at r; cases r; exact .nil
  | cons n ns ih =>
    intro us r
    rw [List.map_cons] at r
    cases r with
    | cons r1 r2 =>
      obtain ⟨t, e⟩ := r1
      subst e
      exact .cons n t (ih r2)
section
variable {X : Cx} {e : Expr} {te : TE} {lo hi : Option Expr} {tl th : TO} {pos p2 : Pos}
theorem po_none : PO X none tNoPart := by
  intro pins s σ H Q I h
  rw [evalPart_none]
  exact wpAny_pure ⟨none, H, I, .none, h⟩
theorem po_some (h : PE X e te) : PO X (some e) (tPart te) := by
  intro pins s σ H Q I hw
  rw [evalPart_some]
  refine thn (h pins s σ H _ I hw) fun u s1 ⟨x, H1, I1, r1, q1⟩ => ?_
  obtain ⟨i, rfl, q⟩ := q1
  obtain ⟨t, rfl⟩ := r1
  exact ⟨some i, H1, I1, .int i t, q⟩
noncomputable def SlR (X : Cx) (r : V -> Option Int -> Option Int -> Hp -> VK -> Prop) : Prop :=
  ∀ (pins : List (Addr × Obj)) (s : Shared) (σ : St) (H : Hp) (x : V) (v vl vu : Value) (lo hi : Option Int) (sl : Addr) (Q : VK), Inv X pins σ H s -> RelV x v -> s.heap.IsSliceOf sl vl vu .none -> IsPart vl lo -> IsPart vu hi -> r x lo hi H Q ->
    ∃ T id, typeLookup (.type T) "__getitem__" = pure (some (.builtin id)) /\ s.TypeIs v T /\ wpAny (model X.prog X.w) X.A (getItem v (.ref sl)) (EP X pins σ Q) X.xe s
noncomputable def tSl (r : V -> Option Int -> Option Int -> Hp -> VK -> Prop) (te : TE) (tl th : TO) : TE := fun σ H Q => te σ H fun x H1 => tl σ H1 fun l H2 => th σ H2 fun u H3 => r x l u H3 Q
theorem pe_slice {r : V -> Option Int -> Option Int -> Hp -> VK -> Prop} (hr : SlR X r) (he : PE X e te) (hl : PO X lo tl) (hu : PO X hi th) : PE X (.Subscript e (.Slice lo hi none p2) pos) (tSl r te tl th) := by
  intro pins s σ H Q I h
  refine Subscript_ (thn (he pins s σ H _ I h) fun v s1 ⟨x, H1, I1, r1, q1⟩ => ?_)
  refine wpAny_Slice (thn (hl pins s1 σ H1 _ I1 q1) fun vl s2 ⟨l, H2, I2, pl, q2⟩ => thn (hu pins s2 σ H2 _ I2 q2) fun vu s3 ⟨u, H3, I3, pu, q3⟩ => ?_)
  rw [evalPart_none]
  refine wpAny_pure ?_
  have I4 : Inv X pins σ H3 { s3 with heap := s3.heap.push { cls := .type "slice", data := .fields #[vl, vu, .none] } } := I3.kept (t' := s3.toks) fun b ob q => Heap.get?_push_of_some _ q
  obtain ⟨T, id, hT, ht, hg⟩ := hr pins { s3 with heap := s3.heap.push { cls := .type "slice", data := .fields #[vl, vu, .none] } } σ H3 x v vl vu l u s3.heap.objs.size Q I4 r1 (Heap.IsSliceOf.new ..) pl pu q3
  show wpAny (model X.prog X.w) X.A (subscriptTail e (.Slice lo hi none p2) v (.ref s3.heap.objs.size)) (EP X pins σ Q) X.xe { s3 with heap := s3.heap.push { cls := .type "slice", data := .fields #[vl, vu, .none] } }
  exact tail_any (ops := [.ref s3.heap.objs.size, v]) ht hT hg (by with_unfolding_all rfl)
noncomputable def cutV (xs : List V) (lo hi : Option Int) : List V := (xs.drop (HT.sIx xs.length 0 lo)).take (HT.sIx xs.length xs.length hi - HT.sIx xs.length 0 lo)
theorem cutV_length (xs : List V) (lo hi : Option Int) : (cutV xs lo hi).length <= xs.length := by
  unfold cutV
  rw [List.length_take, List.length_drop]
  omega
noncomputable def rCatT (K : PySem.W.Frag) : R2 := fun x y H Q => ∃ a b xs ys, x = .ref a /\ y = .ref b /\ SqT K H a xs /\ SqT K H b ys /\ xs ≠ [] /\ xs.length + ys.length <= sizeLine /\
  (ys = [] -> Q (.ref a) H) /\ (ys ≠ [] -> ∀ p, H p = none -> Q (.ref p) (upd H p (.tup (xs ++ ys))))
theorem Vals.nil_iff {xs : List V} {us : List Value} (r : Vals xs us) : us = [] ↔ xs = [] := by
  cases r with
  | nil => simp
  | cons _ _ => simp
theorem op_catT : OpR X (binaryOp .Add) (rCatT X.K) := by
  intro pins s σ H x y v u Q I rx ry h
  obtain ⟨a, b, xs, ys, rfl, rfl, ha, hb, hx, hz, q1, q2⟩ := h
  cases rx
  cases ry
  obtain ⟨its, r1, p1, _⟩ := I.tuple ha
  obtain ⟨its2, r2, p2, _⟩ := I.tuple hb
  refine HT.cat_tup p1 p2 (fun z => hx (r1.nil_iff.mp z)) (fun z => ⟨.ref a, H, I, rfl, q1 (r2.nil_iff.mp z)⟩) (fun z => ?_) (by rw [<- r1.length, <- r2.length]; exact hz)
  refine ⟨.ref s.heap.objs.size, _, I.laid (t' := s.toks) (o := .tup (xs ++ ys)) (fun b ob q => Heap.get?_push_of_some _ q) (Nat.le_refl _) ?_, rfl, q2 (fun w => z (r2.nil_iff.mpr w)) _ (I.hok.fresh (Nat.le_refl _))⟩
  exact ⟨by rw [List.length_append]; exact hz, _, r1.append r2, IsTup.new _ _⟩
end
end L2
namespace L2
open PySem PySem.Spec PyProof.Rows
noncomputable def ixN (n : Nat) (i : Int) : Option Nat := if 0 <= i then (if i < n then some i.toNat else none) else if -(n : Int) <= i then some (i + n).toNat else none
noncomputable def atI {α : Type} (xs : List α) (i : Int) : Option α := (ixN xs.length i).bind fun j => xs[j]?
theorem ixN_seq {n : Nat} {i : Int} {j : Nat} (h : ixN n i = some j) : seqIndex? i n = some j /\ j < n /\ -(n : Int) <= i /\ i < n := by
  unfold ixN at h
  by_cases h0 : 0 <= i
  . rw [if_pos h0] at h
    by_cases h1 : i < n
    . rw [if_pos h1] at h
      have e : i.toNat = j := Option.some.inj h
      exact ⟨by rw [seqIndex_of h0 h1, e], by omega, by omega, h1⟩
    . rw [if_neg h1] at h; cases h
  . rw [if_neg h0] at h
    by_cases h1 : -(n : Int) <= i
    . rw [if_pos h1] at h
      have e : (i + n).toNat = j := Option.some.inj h
      exact ⟨by rw [seqIndex_neg (by omega) h1, e], by omega, h1, by omega⟩
    . rw [if_neg h1] at h; cases h
theorem atI_get {α : Type} {xs : List α} {i : Int} {v : α} (h : atI xs i = some v) : ∃ j, seqIndex? i xs.length = some j /\ xs[j]? = some v /\ j < xs.length /\ -(xs.length : Int) <= i /\ i < xs.length := by
  unfold atI at h
  cases e : ixN xs.length i with
  | none => rw [e] at h; cases h
  | some j =>
    rw [e] at h
    obtain ⟨h1, h2, h3, h4⟩ := ixN_seq e
    exact ⟨j, h1, h, h2, h3, h4⟩
theorem atI_nat {α : Type} {xs : List α} {j : Nat} {v : α} (h : xs[j]? = some v) : atI xs (j : Int) = some v := by
  have hj : j < xs.length := (List.getElem?_eq_some_iff.mp h).1
  have e : ixN xs.length (j : Int) = some j := by
    unfold ixN
    rw [if_pos (by omega), if_pos (by omega)]; simp
  unfold atI; rw [e]; exact h
noncomputable def PlainIx (b : Expr) : Prop := ∀ o i, subscripted b false o i = operate [o, i] (getItem o i)
noncomputable def IxR (X : Cx) (r : R2) : Prop :=
  ∀ (value slice : Expr) (pins : List (Addr × Obj)) (s : Shared) (σ : St) (H : Hp) (x y : V) (v u : Value) (Q : VK), Inv X pins σ H s -> RelV x v -> RelV y u -> r x y H Q ->
    subscripted slice false v u = operate [v, u] (getItem v u) -> wpAny (model X.prog X.w) X.A (subscriptTail value slice v u) (EP X pins σ Q) X.xe s
noncomputable def MtR (X : Cx) (id : String) (r : V -> List V -> Hp -> VK -> Prop) : Prop :=
  ∀ (pins : List (Addr × Obj)) (s : Shared) (σ : St) (H : Hp) (x : V) (xs : List V) (v : Value) (us : List Value) (Q : VK), Inv X pins σ H s -> RelV x v -> Vals xs us -> r x xs H Q ->
    wpAny (model X.prog X.w) X.A (call (.builtin id) (v :: us)) (EP X pins σ Q) X.xe s
section
variable {X : Cx} {a b : Expr} {ta tb : TE} {pos : Pos}
theorem pe_ix {r : R2} (hr : IxR X r) (ha : PE X a ta) (hb : PE X b tb) (hs : PlainIx b) : PE X (.Subscript a b pos) (tOp r ta tb) := by
  intro pins s σ H Q I h
  exact Subscript_ (binT ha hb I h fun v u s2 x y H2 I2 rx ry q => hr a b pins s2 σ H2 x y v u Q I2 rx ry q (hs _ _))
noncomputable def rIxL (K : PySem.W.Frag) : R2 := fun x y H Q => ∃ p xs i v, x = .ref p /\ y = .int i /\ SqL K H p xs /\ atI xs i = some v /\ Q v H
noncomputable def rIxT (K : PySem.W.Frag) : R2 := fun x y H Q => ∃ p xs i v, x = .ref p /\ y = .int i /\ SqT K H p xs /\ atI xs i = some v /\ Q v H
theorem ix_list : IxR X (rIxL X.K) := by
  intro value slice pins s σ H x y v u Q I rx ry h hs
  obtain ⟨p, xs, i, z, rfl, rfl, hq, he, q⟩ := h
  cases rx
  obtain ⟨t, rfl⟩ := ry
  obtain ⟨its, r, pl, hz⟩ := I.list hq
  obtain ⟨j, h1, h2, h3, h4, h5⟩ := atI_get he
  obtain ⟨w, ew, rw'⟩ := r.get h2
  have hl := r.length
  have hn := line63
  have fin : EP X pins σ Q w s := ⟨z, H, I, rw', q⟩
  by_cases h0 : 0 <= i
  . have hj : i.toNat = j := by
      rw [seqIndex_of h0 h5] at h1
      exact Option.some.inj h1
    exact item_listR pl.isList h0 (by omega) (by rw [hj]; simpa using ew) fin hs
  . have hj : (i + (its.toArray.size : Int)).toNat = j := by
      rw [seqIndex_neg (by omega) h4] at h1
      rw [List.size_toArray, <- hl]
      exact Option.some.inj h1
    exact subscriptTail_builtinR (x := w) pl.isList.typeIs slot_list_getitem.lookup
      (wpAny_getItem_list_neg (Q := fun r s' => r = w /\ EP X pins σ Q r s') pl.isList (by omega) (by rw [List.size_toArray] <;> omega) (by omega) (by rw [hj]; simpa using ew) ⟨rfl, fin⟩) hs
theorem ix_tup : IxR X (rIxT X.K) := by
  intro value slice pins s σ H x y v u Q I rx ry h hs
  obtain ⟨p, xs, i, z, rfl, rfl, hq, he, q⟩ := h
  cases rx
  obtain ⟨t, rfl⟩ := ry
  obtain ⟨its, r, pl, hz⟩ := I.tuple hq
  obtain ⟨j, h1, h2, h3, h4, h5⟩ := atI_get he
  obtain ⟨w, ew, rw'⟩ := r.get h2
  have hl := r.length
  have hn := line63
  have fin : EP X pins σ Q w s := ⟨z, H, I, rw', q⟩
  exact subscriptTail_builtinR (x := w) pl.typeIs slot_tuple_getitem.lookup
    (getItem_tuple (j := j) (Q := fun r s' => r = w /\ EP X pins σ Q r s') pl (by omega) (by omega) (by rw [List.size_toArray, <- hl]; exact h1) (by simpa using ew) ⟨rfl, fin⟩) hs
theorem mapSeq_set (its : List Value) (n j : Nat) (u : Value) : Obj.mapSeq (·.setIfInBounds j u) { cls := .type "list", data := .seq its.toArray n } = { cls := .type "list", data := .seq (its.set j u).toArray n } := by
  simp [Obj.mapSeq]
theorem Inv.lst {pins : List (Addr × Obj)} {σ : St} {H : Hp} {s : Shared} {p : Addr} {xs : List V} (I : Inv X pins σ H s) (h : H p = some (.lst xs)) :
    ∃ (its : List Value) (n : Nat), Vals xs its /\ s.heap.get? p = some { cls := .type "list", data := .seq its.toArray n } /\ xs.length <= sizeLine := by
  obtain ⟨z, its, n, r, e⟩ := I.hok p _ h
  exact ⟨its, n, r, e, z⟩
theorem Inv.lstUpd {pins : List (Addr × Obj)} {σ : St} {H : Hp} {s : Shared} {p : Addr} {xs ys : List V} {its its' : List Value} {n n' : Nat} {f : Obj -> Obj} (I : Inv X pins σ H s) (h : H p = some (.lst xs))
    (ho : s.heap.get? p = some { cls := .type "list", data := .seq its.toArray n }) (hf : f { cls := .type "list", data := .seq its.toArray n } = { cls := .type "list", data := .seq its'.toArray n' }) (r : Vals ys its') (hz : ys.length <= sizeLine) (t : Nat) :
    Inv X pins σ (upd H p (.lst ys)) { s with heap := s.heap.update p f, toks := t } := by
  have e : (s.heap.update p f).get? p = some { cls := .type "list", data := .seq its'.toArray n' } := by
    rw [Heap.get?_update_self f ho (by rw [hf] <;> rfl), hf]
  refine I.write (x := p) (e := p) (by rw [h]; trivial) (.inl rfl) (fun b u hb q => (Heap.get?_update_other _ _ (Ne.symm hb)).trans q) ⟨_, e⟩ ?_
  exact ⟨hz, its', n', r, e⟩
noncomputable def rSetL : V -> V -> V -> Hp -> (Hp -> Prop) -> Prop := fun o i v H Q => ∃ p xs k j, o = .ref p /\ i = .int k /\ H p = some (.lst xs) /\ ixN xs.length k = some j /\ Q (upd H p (.lst (xs.set j v)))
theorem set_list : PSet X rSetL := by
  intro pins s σ H o i v ov iv u Q I ro ri rv h
  obtain ⟨p, xs, k, j, rfl, rfl, hp, hj, q⟩ := h
  cases ro
  obtain ⟨t, rfl⟩ := ri
  obtain ⟨its, n, r, ho, hz⟩ := I.lst hp
  obtain ⟨h1, h2, h3, h4⟩ := ixN_seq hj
  have hl := r.length
  have hn := line63
  have I' : Inv X pins σ (upd H p (.lst (xs.set j v))) { s with heap := s.heap.update p (Obj.mapSeq (·.setIfInBounds j u)) } :=
    I.lstUpd hp ho (mapSeq_set its n j u) (r.set rv j) (by rw [List.length_set]; exact hz) s.toks
  by_cases h0 : 0 <= k
  . have hk : k.toNat = j := by
      rw [seqIndex_of h0 h4] at h1
      exact Option.some.inj h1
    exact PySem.W.ki_setAt ho h0 (by omega) (by rw [List.size_toArray, <- hl]; exact h4) (by rw [hk]; exact ⟨_, I', q⟩)
  . have hk : (k + (its.toArray.size : Int)).toNat = j := by
      rw [seqIndex_neg (by omega) h3] at h1
      rw [List.size_toArray, <- hl]
      exact Option.some.inj h1
    exact PySem.W.ki_setBack ho (by omega) (by rw [List.size_toArray, <- hl]; exact h3) (by omega) (by rw [hk]; exact ⟨_, I', q⟩)
theorem slice_bounds (lo hi : Option Int) (n : Nat) : (sliceBounds lo hi none n).1 = ((HT.sIx n 0 lo : Nat) : Int) /\ (sliceBounds lo hi none n).2.1 = ((HT.sIx n n hi : Nat) : Int) /\ (sliceBounds lo hi none n).2.2 = 1 := by
  refine ⟨?_, ?_, rfl⟩
  . cases lo with
    | none => simp [sliceBounds, HT.sIx]
    | some i =>
      simp only [sliceBounds, HT.sIx, Option.getD_none, show (1 : Int) > 0 by decide, if_true]
      by_cases h : i < 0
      . simp only [h, if_true] <;> omega
      . simp only [h, if_false] <;> omega
  . cases hi with
    | none => simp [sliceBounds, HT.sIx]
    | some i =>
      simp only [sliceBounds, HT.sIx, Option.getD_none, show (1 : Int) > 0 by decide, if_true]
      by_cases h : i < 0
      . simp only [h, if_true] <;> omega
      . simp only [h, if_false] <;> omega
theorem slicePick_cut (its : List Value) (lo hi : Option Int) : slicePick its.toArray lo hi none = ((its.drop (HT.sIx its.length 0 lo)).take (HT.sIx its.length its.length hi - HT.sIx its.length 0 lo)).toArray := by
  obtain ⟨h1, h2, h3⟩ := slice_bounds lo hi its.toArray.size
  unfold slicePick
  rw [h1, h2, h3]
  simp only [sliceRange_one, pick_run, List.size_toArray] <;> rfl
noncomputable def rSlL (K : PySem.W.Frag) : V -> Option Int -> Option Int -> Hp -> VK -> Prop := fun x lo hi H Q => ∃ a xs, x = .ref a /\ SqL K H a xs /\ ∀ p, H p = none -> Q (.ref p) (upd H p (.lst (cutV xs lo hi)))
theorem sl_list : SlR X (rSlL X.K) := by
  intro pins s σ H x v vl vu lo hi sl Q I rx hs pl pu h
  obtain ⟨a, xs, rfl, hx, q⟩ := h
  cases rx
  obtain ⟨its, r, ht, hz⟩ := I.list hx
  have hlen := r.length
  refine ⟨"list", _, slot_list_getitem.lookup, ht.isList.typeIs, ?_⟩
  refine wpAny_getItem_list_slice ht.isList hs pl pu .none (by simp) ?_ (by rw [List.size_toArray] <;> omega)
  rw [slicePick_cut, <- hlen]
  refine ⟨.ref s.heap.objs.size, _, I.laid (t' := s.toks) (o := .lst (cutV xs lo hi)) (fun b ob q => Heap.get?_push_of_some _ q) (Nat.le_refl _) ?_, rfl, q _ (I.hok.fresh (Nat.le_refl _))⟩
  exact ⟨Nat.le_trans (cutV_length xs lo hi) hz, _, 0, (r.drop (HT.sIx xs.length 0 lo)).take (HT.sIx xs.length xs.length hi - HT.sIx xs.length 0 lo), Heap.get?_push_size _ rfl⟩
theorem call_len_seq : CallR X (.builtin "len") (fun xs H Q => ∃ p ys, xs = [.ref p] /\ (SqL X.K H p ys \/ SqT X.K H p ys) /\ Q (.int ys.length) H) := by
  intro pins s σ H xs us Q I r h
  obtain ⟨p, ys, rfl, hq, q⟩ := h
  obtain ⟨u, rfl, rx⟩ := vals1 r
  cases rx
  have hn := line63
  rcases hq with hq | hq
  . obtain ⟨its, r', pl, hz⟩ := I.list hq
    have hlen := r'.length
    exact Calls.call_len_list pl.isList (by simp only [List.size_toArray] <;> omega) ⟨.int ys.length, H, I.tok _, ⟨s.toks + 1, by rw [List.size_toArray, hlen]⟩, q⟩
  . obtain ⟨its, r', pl, hz⟩ := I.tuple hq
    have hlen := r'.length
    exact len_tuple pl (by simp only [List.size_toArray] <;> omega) ⟨.int ys.length, H, I.tok _, ⟨s.toks + 1, by rw [List.size_toArray, hlen]⟩, q⟩
theorem call_list_of : CallR X (.type "list") (fun xs H Q => ∃ p ys, xs = [.ref p] /\ (SqL X.K H p ys \/ SqT X.K H p ys) /\ ∀ l, H l = none -> Q (.ref l) (upd H l (.lst ys))) := by
  intro pins s σ H xs us Q I r h
  obtain ⟨p, ys, rfl, hq, q⟩ := h
  obtain ⟨u, rfl, rx⟩ := vals1 r
  cases rx
  have fin : ∀ (its : List Value), Vals ys its -> ys.length <= sizeLine -> ∀ (h' : Heap) (c' : Nat), (∀ b o', s.heap.get? b = some o' -> h'.get? b = some o') ->
      h'.get? s.heap.objs.size = some { cls := .type "list", dict := none, data := .seq its.toArray c', slots := #[] } -> EP X pins σ Q (.ref s.heap.objs.size) { s with heap := h' } := fun its r' hz h' c' kp e =>
    ⟨.ref s.heap.objs.size, _, I.laid (t' := s.toks) kp (Nat.le_refl _) (show ObjOk X.prog X.w _ h' _ (.lst ys) from ⟨hz, its, c', r', e⟩), rfl, q _ (I.hok.fresh (Nat.le_refl _))⟩
  rcases hq with hq | hq
  . obtain ⟨its, r', pl, hz⟩ := I.list hq
    have hlen := r'.length
    obtain ⟨o, ho, hc, n, hd⟩ := pl.isList
    exact call_list_seq p (.inl rfl) ho hc hd (fun h' c' kp e => fin its r' hz h' c' kp e) (by simp only [List.size_toArray] <;> omega)
  . obtain ⟨its, r', pl, hz⟩ := I.tuple hq
    have hlen := r'.length
    obtain ⟨o, ho, hc, n, hd⟩ := pl
    exact call_list_seq p (.inr rfl) ho hc hd (fun h' c' kp e => fin its r' hz h' c' kp e) (by simp only [List.size_toArray] <;> omega)
theorem call_tuple_of : CallR X (.type "tuple") (fun xs H Q => ∃ p ys, xs = [.ref p] /\ ((SqL X.K H p ys /\ ∀ l, H l = none -> Q (.ref l) (upd H l (.tup ys))) \/ (SqT X.K H p ys /\ Q (.ref p) H))) := by
  intro pins s σ H xs us Q I r h
  obtain ⟨p, ys, rfl, h⟩ := h
  obtain ⟨u, rfl, rx⟩ := vals1 r
  cases rx
  rcases h with ⟨hq, q⟩ | ⟨hq, q⟩
  . obtain ⟨its, r', pl, hz⟩ := I.list hq
    have hlen := r'.length
    refine call_tuple_list pl.isList (fun h' kp => ?_) (by simp only [List.size_toArray] <;> omega)
    have I1 : Inv X pins σ H { s with heap := h' } := I.kept (t' := s.toks) kp
    have I2 : Inv X pins σ (upd H h'.objs.size (.tup ys)) { s with heap := h'.push { cls := .type "tuple", data := .seq its.toArray } } :=
      I1.laid (t' := s.toks) (fun b o e => Heap.get?_push_of_some _ e) (Nat.le_refl _) (show ObjOk X.prog X.w _ _ _ (.tup ys) from ⟨hz, its, r', IsTup.new _ _⟩)
    exact ⟨.ref h'.objs.size, _, I2, rfl, q _ (I1.hok.fresh (Nat.le_refl _))⟩
  . obtain ⟨its, r', pl, hz⟩ := I.tuple hq
    exact call_tuple_same pl ⟨.ref p, H, I, rfl, q⟩
noncomputable def tyV (K : PySem.W.Frag) (T : String) (x : V) (H : Hp) : Prop := match x with
  | .str _ => T = "str"
  | .int _ => T = "int"
  | .ref p => (T = "list" /\ ∃ xs, SqL K H p xs) \/ (T = "tuple" /\ ∃ o, K.lookup p = some o /\ o.cls = .type "tuple" /\ o.dict = none) \/
      (T = "dict" /\ ((∃ kvs, H p = some (.dK kvs)) \/ ∃ kvs, H p = some (.dT kvs))) \/ (T = "set" /\ ∃ S n, H p = some (.set S n))
  | _ => False
theorem tyV_is {pins : List (Addr × Obj)} {σ : St} {H : Hp} {s : Shared} {T : String} {x : V} {v : Value} (I : Inv X pins σ H s) (r : RelV x v) (ty : tyV X.K T x H) :
    s.TypeIs v T /\ ∀ a, v = .ref a -> ∃ ob, s.heap.get? a = some ob /\ ob.dict = none := by
  cases x with
  | str z =>
    obtain ⟨t, rfl⟩ := r
    cases (show T = "str" from ty)
    exact ⟨typeIs_str s z t, fun _ e => nomatch e⟩
  | int i =>
    obtain ⟨t, rfl⟩ := r
    cases (show T = "int" from ty)
    exact ⟨typeIs_int s i t, fun _ e => nomatch e⟩
  | ref p =>
    cases r
    rcases ty with ⟨rfl, xs, hq⟩ | ⟨rfl, o, hk, hc, hd⟩ | ⟨rfl, hk⟩ | ⟨rfl, S, n, hk⟩
    . obtain ⟨its, _, pl, _⟩ := I.list hq
      refine ⟨pl.isList.typeIs, fun a e => ?_⟩
      cases e
      obtain ⟨o, n, e, c, hd, _⟩ := pl
      exact ⟨o, e, hd⟩
    . refine ⟨⟨o, I.kIn p o hk, hc⟩, fun a e => ?_⟩
      cases e
      exact ⟨o, I.kIn _ o hk, hd⟩
    . have z : ∃ o, s.heap.get? p = some o /\ o.ExactDict := by
        rcases hk with ⟨kvs, hk⟩ | ⟨kvs, hk⟩
        . obtain ⟨_, _, _, _, o, _, _, e, ex, _⟩ := I.hok p _ hk
          exact ⟨o, e, ex⟩
        . obtain ⟨_, _, _, _, o, _, _, e, ex, _⟩ := I.hok p _ hk
          exact ⟨o, e, ex⟩
      obtain ⟨o, e, ex⟩ := z
      refine ⟨⟨o, e, ex.1⟩, fun a e2 => ?_⟩
      cases e2
      exact ⟨o, e, ex.2.1⟩
    . obtain ⟨o, _, _, _, e, ex, _⟩ := I.hok p _ hk
      refine ⟨⟨o, e, ex.1⟩, fun a e2 => ?_⟩
      cases e2
      exact ⟨o, e, ex.2.1⟩
  | _ => exact False.elim ty
noncomputable def tBM0 (K : PySem.W.Frag) (T : String) (r : V -> List V -> Hp -> VK -> Prop) (to : TE) : TE := fun σ H Q => to σ H fun x H1 => tyV K T x H1 /\ r x [] H1 Q
noncomputable def tBM (K : PySem.W.Frag) (T : String) (r : V -> List V -> Hp -> VK -> Prop) (to : TE) (t : TA) : TE := fun σ H Q => to σ H fun x H1 => tyV K T x H1 /\ t σ H1 fun xs H2 => r x xs H2 Q
variable {o e : Expr} {es : List Expr} {to : TE} {t : TA} {name : Str} {apos cpos : Pos} {T id : String} {r : V -> List V -> Hp -> VK -> Prop}
theorem pe_bm0 (pa : PlainAttrs T) (slot : Slot T name id) (hty : typeOf (.builtin id) = pure (.type "method_descriptor")) (hm : MtR X id r) (ho : PE X o to)
    (hbase : attributeBase o name X.env (eval o X.env) = eval o X.env := by rfl) (hline : (apos.endLine == cpos.line) = true := by rfl) : PE X (.Call (.Attribute o name apos) [] [] cpos) (tBM0 X.K T r to) := by
  intro pins s σ H Q I h
  refine wpAny_Call_method0_late hbase hline (thn (ho pins s σ H _ I h) fun v s1 ⟨x, H1, I1, r1, ty, q1⟩ => ?_)
  obtain ⟨h1, h2⟩ := tyV_is I1 r1 ty
  exact ⟨T, id, pa, slot, hty, h1, h2, Calls.callWith_builtin rfl (PySem.evalArgs_none (hm pins s1 σ H1 x [] v [] Q I1 r1 .nil q1))⟩
theorem pe_bm (pa : PlainAttrs T) (slot : Slot T name id) (hty : typeOf (.builtin id) = pure (.type "method_descriptor")) (hm : MtR X id r) (ho : PE X o to) (ha : PA X (e :: es) t)
    (hbase : attributeBase o name X.env (eval o X.env) = eval o X.env := by rfl)
    (hfew : ((backTo cpos (starEach (e :: es) X.env)).all (fun x => !x.1) && (backToKw cpos (keywordEach [] X.env)).all (fun x => x.1.isSome)
      && decide ((e :: es).length + ([] : List Keyword).length + (if ([] : List Keyword).isEmpty then 0 else 1) < 30)) = true := by rfl)
    (hline : (apos.endLine == cpos.line) = true := by rfl) (hs : starEach (e :: es) X.env = (false, eval e X.env) :: starEach es X.env := by rfl) (hplain : (backTo cpos (starEach es X.env)).any (·.1) = false := by rfl) :
    PE X (.Call (.Attribute o name apos) (e :: es) [] cpos) (tBM X.K T r to t) := by
  intro pins s σ H Q I h
  refine wpAny_Call_method_late hbase hfew hline rfl (thn (ho pins s σ H _ I h) fun v s1 ⟨x, H1, I1, r1, ty, q1⟩ => ?_)
  obtain ⟨h1, h2⟩ := tyV_is I1 r1 ty
  refine ⟨T, id, pa, slot, hty, h1, h2, ?_⟩
  have hA := ha cpos pins s1 σ H1 _ I1 q1
  rw [hs] at hA ⊢
  refine Calls.callWith_builtin (by show (false || (backTo cpos (starEach es X.env)).any (·.1)) = false; rw [hplain] <;> rfl) (Calls.evalArgs_plain ?_)
  exact thn hA fun us s2 ⟨vs, H2, I2, r2, q2⟩ => hm pins s2 σ H2 x vs v us Q I2 r1 r2 q2
end
end L2
namespace L2
open PySem PySem.Spec PyProof.Rows
noncomputable def MtM (X : Cx) (id : String) (r : V -> List V -> Hp -> VK -> Prop) : Prop :=
  ∀ (pins : List (Addr × Obj)) (s : Shared) (σ : St) (H : Hp) (x : V) (xs : List V) (v : Value) (us : List Value) (Q : VK), Inv X pins σ H s -> RelV x v -> Vals xs us -> r x xs H Q ->
    wpAny (model X.prog X.w) X.A (call (.builtin id) (v :: us)) (EP X pins σ Q) X.xe s
theorem Vals.one : ∀ {x : V} {us : List Value}, Vals [x] us -> ∃ u, us = [u] /\ RelV x u
  | _, _, .cons r .nil => ⟨_, rfl, r⟩
theorem Vals.zero : ∀ {us : List Value}, Vals [] us -> us = []
  | _, .nil => rfl
theorem Vals.dropLast {xs : List V} {us : List Value} (h : Vals xs us) : Vals xs.dropLast us.dropLast := by
  induction h with
  | nil => exact .nil
  | cons r t ih =>
    cases t with
    | nil => exact .nil
    | cons q t' => exact .cons r ih
theorem Vals.reverse {xs : List V} {us : List Value} (h : Vals xs us) : Vals xs.reverse us.reverse := by
  induction h with
  | nil => exact .nil
  | cons r t ih => rw [List.reverse_cons, List.reverse_cons]; exact Vals.append ih (.cons r .nil)
theorem Vals.rep {xs : List V} {us : List Value} (h : Vals xs us) : ∀ k : Nat, Vals (List.replicate k xs).flatten (List.replicate k us).flatten
  | 0 => .nil
  | k + 1 => by
    rw [List.replicate_succ, List.replicate_succ, List.flatten_cons, List.flatten_cons]
    exact Vals.append h (Vals.rep h k)
theorem erase_last {α : Type} (l : List α) : l.eraseIdx (l.length - 1) = l.dropLast := by
  induction l with
  | nil => rfl
  | cons a r ih =>
    cases r with
    | nil => rfl
    | cons b r =>
      have e : (a :: b :: r).length - 1 = ((b :: r).length - 1) + 1 := by
        have h1 : (a :: b :: r).length = r.length + 2 := rfl
        have h2 : (b :: r).length = r.length + 1 := rfl
        omega
      rw [e, List.eraseIdx_cons_succ, ih]
      all_goals rfl
theorem foldl_rep (its : List Value) : ∀ (k : Nat) (acc : List Value),
    List.foldl (fun x1 x2 => x1 ++ x2) acc.toArray (List.replicate k its.toArray) = (acc ++ (List.replicate k its).flatten).toArray
  | 0, acc => by simp
  | k + 1, acc => by
    have e : acc.toArray ++ its.toArray = (acc ++ its).toArray := by simp
    have e2 : (acc ++ its) ++ (List.replicate k its).flatten = acc ++ (List.replicate (k + 1) its).flatten := by
      rw [List.replicate_succ, List.flatten_cons, List.append_assoc]
    rw [<- e2, <- foldl_rep its k (acc ++ its), <- e, List.replicate_succ, List.foldl_cons]
section
variable {X : Cx} {pins : List (Addr × Obj)} {σ : St} {H : Hp} {s : Shared} {l b : Addr} {xs ys zs : List V}
theorem Inv.lset {its its' : List Value} {n : Nat} {f : Array Value -> Array Value} {t' : Nat} (I : Inv X pins σ H s) (hH : H l = some (.lst xs))
    (e : s.heap.get? l = some { cls := .type "list", data := .seq its.toArray n }) (hf : f its.toArray = its'.toArray) (hv : Vals ys its') (hz : ys.length <= sizeLine) :
    Inv X pins σ (upd H l (.lst ys)) { s with heap := s.heap.update l (Obj.mapSeq f), toks := t' } := by
  have q := PySem.IsL.update e f
  rw [hf] at q
  refine I.write (x := l) (e := l) (by rw [hH]; exact trivial) (.inl rfl) (fun b' u hb hu => (Heap.get?_update_other s.heap (Obj.mapSeq f) (Ne.symm hb)).trans hu) ⟨_, q⟩ ?_
  exact ⟨hz, its', _, hv, q⟩
theorem Inv.lnew {its : List Value} {t' : Nat} (I : Inv X pins σ H s) (hv : Vals ys its) (hz : ys.length <= sizeLine) :
    Inv X pins σ (upd H s.heap.objs.size (.lst ys)) { s with heap := s.heap.push { cls := .type "list", data := .seq its.toArray }, toks := t' } :=
  I.laid (fun _ _ q => Heap.get?_push_of_some _ q) (Nat.le_refl _) ⟨hz, its, 0, hv, Heap.get?_push_size _ rfl⟩
theorem Inv.fresh (I : Inv X pins σ H s) : H s.heap.objs.size = none := I.hok.fresh (Nat.le_refl _)
theorem Inv.lstM (I : Inv X pins σ H s) (hH : H l = some (.lst xs)) : xs.length <= sizeLine /\ ∃ (its : List Value) (n : Nat), Vals xs its /\ xs.length = its.length /\ s.heap.get? l = some { cls := .type "list", data := .seq its.toArray n } := by
  obtain ⟨z, its, n, r, e⟩ := I.hok l _ hH
  exact ⟨z, its, n, r, r.length, e⟩
theorem notLongL {n : Nat} (h : n <= sizeLine) : Builtin.List.listTooLong n = false := by
  unfold Builtin.List.listTooLong
  exact decide_eq_false (by omega)
end
section
variable {X : Cx}
noncomputable def rAppend : V -> List V -> Hp -> VK -> Prop := fun x vs H Q => ∃ l xs y, x = .ref l /\ vs = [y] /\ H l = some (.lst xs) /\ xs.length < sizeLine /\ Q .non (upd H l (.lst (xs ++ [y])))
theorem mt_append : MtM X "list.append" rAppend := by
  intro pins s σ H x vs v us Q I rx rv h
  obtain ⟨l, xs, y, rfl, rfl, hH, hz, q⟩ := h
  cases rx
  obtain ⟨u, rfl, ru⟩ := rv.one
  obtain ⟨z, its, n, r, hl, e⟩ := I.lstM hH
  refine call_meets F.slot_list_append ⟨_, e, rfl⟩ F.entry_list_append (F.args_list_append_2 _ _) (PySem.list_append l its.toArray n u (by rw [List.size_toArray]; omega)) ⟨e, ?_⟩
  refine ⟨.non, _, I.lset (its' := its ++ [u]) hH e (by simp) (r.append (.cons ru .nil)) ?_, rfl, q⟩
  rw [List.length_append, List.length_singleton]
  omega
noncomputable def rExtend : V -> List V -> Hp -> VK -> Prop := fun x vs H Q => ∃ l b xs zs, x = .ref l /\ vs = [.ref b] /\ H l = some (.lst xs) /\ H b = some (.lst zs) /\ xs.length + zs.length <= sizeLine /\ Q .non (upd H l (.lst (xs ++ zs)))
theorem mt_extend : MtM X "list.extend" rExtend := by
  intro pins s σ H x vs v us Q I rx rv h
  obtain ⟨l, b, xs, zs, rfl, rfl, hH, hB, hz, q⟩ := h
  cases rx
  obtain ⟨u, rfl, ru⟩ := rv.one
  cases ru
  obtain ⟨z, its, n, r, hl, e⟩ := I.lstM hH
  obtain ⟨z2, its2, n2, r2, hl2, e2⟩ := I.lstM hB
  have hsz : its.toArray.size + its2.toArray.size <= sizeLine := by rw [List.size_toArray, List.size_toArray]; omega
  have hlong : ¬ (!its.toArray.isEmpty && Builtin.List.listTooLong (its.toArray.size + its2.toArray.size)) = true := by
    rw [notLongL hsz, Bool.and_false]
    exact Bool.false_ne_true
  refine call_meets F.slot_list_extend ⟨_, e, rfl⟩ F.entry_list_extend (F.args_list_extend_2 _ _)
    (AutoSeq1.list_extend_list_list_0 l its.toArray n b its2.toArray n2 hlong (by rw [List.size_toArray]; omega) (by omega)) ⟨e, e2, ?_⟩
  refine ⟨.non, _, I.lset (its' := its ++ its2) hH e (by simp) (r.append r2) ?_, rfl, q⟩
  rw [List.length_append]
  omega
noncomputable def rPop : V -> List V -> Hp -> VK -> Prop := fun x vs H Q => ∃ l xs y, x = .ref l /\ vs = [] /\ H l = some (.lst xs) /\ xs[xs.length - 1]? = some y /\ Q y (upd H l (.lst xs.dropLast))
theorem mt_pop : MtM X "list.pop" rPop := by
  intro pins s σ H x vs v us Q I rx rv h
  obtain ⟨l, xs, y, rfl, rfl, hH, hy, q⟩ := h
  cases rx
  have hus := rv.zero
  subst hus
  obtain ⟨z, its, n, r, hl, e⟩ := I.lstM hH
  obtain ⟨u, hu, ru⟩ := r.get hy
  have hy' : its.toArray[its.toArray.size - 1]? = some u := by
    show its.toArray[its.length - 1]? = some u
    rw [<- Array.getElem?_toList, <- hl]
    exact hu
  refine call_meets F.slot_list_pop ⟨_, e, rfl⟩ F.entry_list_pop (F.args_list_pop_1 _) (MeetsSeq.list_pop_last l its.toArray n u hy' (by rw [List.size_toArray]; omega)) ⟨e, ?_⟩
  refine ⟨y, _, I.lset (its' := its.dropLast) hH e ?_ r.dropLast ?_, ru, q⟩
  . show its.toArray.eraseIdxIfInBounds (its.toArray.size - 1) = its.dropLast.toArray
    rw [List.size_toArray, List.eraseIdxIfInBounds_toArray, erase_last]
  . rw [List.length_dropLast]
    omega
noncomputable def rCat : R2 := fun x y H Q => ∃ l b xs zs, x = .ref l /\ y = .ref b /\ H l = some (.lst xs) /\ H b = some (.lst zs) /\ xs.length + zs.length <= sizeLine /\ ∀ p, H p = none -> Q (.ref p) (upd H p (.lst (xs ++ zs)))
theorem op_cat : OpR X (binaryOp .Add) rCat := by
  intro pins s σ H x y v u Q I rx ry h
  obtain ⟨l, b, xs, zs, rfl, rfl, hH, hB, hz, q⟩ := h
  cases rx
  cases ry
  obtain ⟨z, its, n, r, hl, e⟩ := I.lstM hH
  obtain ⟨z2, its2, n2, r2, hl2, e2⟩ := I.lstM hB
  refine PySem.P.add_list e e2 ?_ (by rw [List.size_toArray, List.size_toArray]; omega)
  have ea : its.toArray ++ its2.toArray = (its ++ its2).toArray := by simp
  rw [ea]
  exact ⟨.ref _, _, I.lnew (t' := s.toks) (r.append r2) (by rw [List.length_append]; omega), rfl, q _ I.fresh⟩
theorem len_rep {α : Type} (xs : List α) (k : Nat) : (List.replicate k xs).flatten.length = k * xs.length := by
  induction k with
  | zero => simp
  | succ k ih => rw [List.replicate_succ, List.flatten_cons, List.length_append, ih, Nat.succ_mul, Nat.add_comm]
end
section
variable {prog : Program} {w : World} {A : Around} {E : Value -> Shared -> Prop} {s : Shared}
end
section
variable {X : Cx}
end
end L2
namespace Att
open PySem PySem.W PySem.Calls PyProof.Rows
theorem ints_of_wellAll {P : Params} {h : Heap} : ∀ (ns : List Int) (vs : List Value), WellAll P h vs (ns.map WData.int) -> IntsAre vs ns := by
  intro ns
  induction ns with
  | nil =>
    intro vs w
    rw [List.map_nil] at w
    cases w
    exact .nil
  | cons n ns ih =>
    intro vs w
    rw [List.map_cons] at w
    cases w with
    | cons a b =>
      cases a
      exact .cons _ _ (ih _ b)
theorem script_of {l : OpenLaw} {n : Nat} (hn : l.most = some n) {P : Params} {h : Heap} {args : List WData} {vals : List Value}
    (hpre : l.row.toRowW.claim.pre args = true) (hwl : WellAll P h vals args) :
    ∃ a vs ns, vals = [Value.ref a] /\ args = [WData.list (ns.map WData.int)] /\ h.get? a = some { cls := .type "list", data := .seq vs.toArray } /\ IntsAre vs ns /\ ns.length <= n := by
  have hsh : WShape.hasAll [] args [.list .int] = true := (pre_splitW hpre).1
  have hc : l.pre.holds [] { args := args } = true := (pre_splitW hpre).2
  obtain ⟨d, r, rfl, h1, h2⟩ := hasAllW_cons hsh
  obtain rfl := hasAllW_nil h2
  obtain ⟨xs, rfl, h3⟩ := hasW_list h1
  obtain ⟨ns, rfl⟩ := items_int h3
  have hlen : ns.length <= n := by
    unfold OpenLaw.pre at hc
    have h4 : (WTm.not (.lt (.lit (.int (n : Int))) (.len (.arg 0)))).holds [] { args := [.list (ns.map .int)] } = true := by
      have h4 := (holds_andW hc).1
      rw [hn] at h4
      exact h4
    have h5 := condW_of h4 (w_not (w_lt w_lit (w_len_list (w_arg rfl))))
    rw [List.length_map] at h5
    refine Nat.le_of_not_lt fun q => ?_
    have q' : (n : Int) < ((ns.length : Nat) : Int) := by omega
    first
      | (rw [decide_eq_true q'] at h5; exact absurd h5 (by decide))
      | (simp at h5; omega)
  cases hwl with
  | cons w1 w2 =>
    cases w2
    cases w1 with
    | list ho hall => exact ⟨_, _, ns, rfl, rfl, ho, ints_of_wellAll ns _ hall, hlen⟩
theorem post_true (l : OpenLaw) (args : List WData) : l.row.toRowW.claim.post args (.bool true) args = true :=
  postW_of (r := l.row.toRowW) (X := (true == true))
    (show WShape.has [] (.bool true) .bool = true by first | rfl | decide | simp [WShape.has, WShape.arms, WShape.armsAll])
    (show (WTm.eq .res (.lit (.bool true))).value [] { args := args, res := some (.bool true), after := args } = some (.bool (true == true)) from w_eq_bool (w_res rfl) w_lit) rfl
section
variable {prog : Program} {w : World} {A : Around} {E : Value -> Shared -> Prop} {s : Shared} {K : Frag}
end
end Att
namespace L2
open PySem PySem.Spec PyProof.Rows
theorem vals_ints : ∀ {vs : List Value} {ns : List Int}, IntsAre vs ns -> Vals (ns.map V.int) vs
  | _, _, .nil => .nil
  | _, _, .cons n t h => .cons ⟨t, rfl⟩ (vals_ints h)
noncomputable def Only (H : Hp) : Prop := ∀ b, H b = none \/ ∃ o xs, H b = some (.frz o (.lst xs))
theorem law_call {P : Program} {w : World} {K : PySem.W.Frag} {mg mb : Str -> Option Value} {CX : CXT} {k : Nat} {fa a : Addr} {fd : FuncData} {x : Str} {sp : Sp} {s₁ : Shared} {vs : List Value} {ns : List Int}
    (KX : K.In s₁.heap) (hns : s₁.heap.Ns mainGlobals mg) (hb : s₁.heap.Ns builtinsNs mb) (hbb : ∀ x : Str, x ≠ "__name__" -> mb x = bootBuiltins x) (hlim : s₁.heap.NoLimit) (hg : s₁.gens = #[])
    (ha : s₁.heap.get? a = some { cls := .type "list", data := .seq vs.toArray }) (hi : IntsAre vs ns) (hl : ns.length <= sizeLine) (hr : Room k callerA)
    (F : ∀ base : Heap, K.In base -> base.Ns mainGlobals mg -> FnOk P w K mg base CX k fa fd [x] sp) (hbind : ∀ (s : Shared) (u : Value), BindsTo s fd ⟨[u], []⟩ [(x, u)])
    (hsp : ∀ H : Hp, Only H -> SqL K H a (ns.map V.int) -> sp [.ref a] H (fun v _ => v = .bl true) fun _ _ _ => False)
    (hCX : ∀ H e s', CX [] H s₁ (fun _ _ _ => False) e s' -> False) :
    codeAny (model P w) callerA (.call (.ref fa) ⟨[.ref a], []⟩) (fun r s' => r = .ok (.ret (.bool true)) /\ OldK s₁.heap s'.heap /\ s'.os = s₁.os /\ AllBare s'.gens) s₁ := by
  have rv := vals_ints hi
  have lenV := hi.length
  have core : ∀ H : Hp, Only H -> SqL K H a (ns.map V.int) -> HOk P w H s₁.heap -> (∀ b, H b ≠ none -> b = a) -> (H a ≠ none -> K.lookup a = none) ->
      codeAny (model P w) callerA (.call (.ref fa) ⟨[.ref a], []⟩) (fun r s' => r = .ok (.ret (.bool true)) /\ OldK s₁.heap s'.heap /\ s'.os = s₁.os /\ AllBare s'.gens) s₁ := by
    intro H hO hS hok hA hK
    have base_of : ∀ {b : Addr} {o : Obj}, s₁.heap.get? b = some o -> H b = none -> (hidT s₁.heap H).get? b = some o := fun e n => hidT_get e n
    have noA : ∀ {b : Addr} {o : Obj} {es : Array DictEntry} {ep : Nat}, s₁.heap.get? b = some o -> o.data = .dict es ep -> H b = none := fun {b o es ep} e d => by
      cases q : H b with
      | none => rfl
      | some u =>
        have e' : b = a := hA b (by rw [q]; simp)
        subst e'
        rw [ha] at e; cases e
        have d' : Data.seq vs.toArray _ = Data.dict es ep := d
        cases d'
    have nsK : ∀ {b : Addr} {m : Str -> Option Value}, s₁.heap.Ns b m -> (hidT s₁.heap H).Ns b m := fun {b m} ⟨o, es, ep, e, d, r⟩ => ⟨o, es, ep, base_of e (noA e d), d, r⟩
    have hKb : K.In (hidT s₁.heap H) := fun b o e => base_of (KX b o e) (by
      cases q : H b with
      | none => rfl
      | some u =>
        have e' : b = a := hA b (by rw [q]; simp)
        subst e'
        rw [hK (by rw [q]; simp)] at e; cases e)
    have hM : Mod K mg (hidT s₁.heap H) := ⟨hKb, nsK hns, ⟨mb, nsK hb, hbb⟩, let ⟨mc, h1, h2⟩ := hlim; ⟨mc, nsK h1, h2⟩⟩
    have e0 : Env0 P w K mg (hidT s₁.heap H) callerA [] s₁ H := ⟨rfl, hM, fun b o e => of_hidT e, Nat.le_of_eq (hidT_size _ _), trivial, fun b hb => absurd (show b ∈ ([] : List Addr) from hb) (by simp), hok, .of_eq hg⟩
    refine codeAny_mono ((F _ hKb (nsK hns)).run callerA [] s₁ H ⟨[.ref a], []⟩ [.ref a] [.ref a] _ _ hr e0 (hbind s₁ (.ref a)) (.cons rfl .nil) (hsp H hO hS)) fun r s' h => ?_
    cases r with
    | error e => exact (hCX H e s' h).elim
    | ok fl =>
      cases fl with
      | next => exact False.elim h
      | brk => exact False.elim h
      | cont => exact False.elim h
      | ret u =>
        obtain ⟨v, H', os, bare, un, hok', r', q⟩ := h
        have q' : v = .bl true := q
        subst q'
        obtain rfl : u = Value.bool true := r'
        refine ⟨rfl, OldK.of_keep fun b o e => ?_, os, bare⟩
        cases q : H b with
        | none => exact un.keep b o e q (by intro z; exact absurd (show b ∈ ([] : List Addr) from z) (by simp)) (by simp)
        | some u =>
          rcases hO b with z | ⟨ob, xs, z⟩
          . rw [q] at z; cases z
          . have z2 := un.frzs b ob _ z
            obtain ⟨e1, _⟩ := hok b _ z
            obtain ⟨e2, _⟩ := hok' b _ z2
            rw [e] at e1; cases e1
            exact e2
  cases hk : K.lookup a with
  | some o =>
    have e := KX a o hk
    rw [ha] at e
    cases e
    refine core (fun _ => none) (fun _ => .inl rfl) (.inr ⟨_, vs.toArray, _, hk, rfl, rfl, rfl, by rw [List.size_toArray, lenV]; exact hl, by simpa using rv⟩) (fun b u z => by have z' : (none : Option HO) = some u := z; cases z') (fun b z => absurd rfl z) fun z => absurd rfl z
  | none =>
    refine core (fun b => if b = a then some (.frz { cls := .type "list", data := .seq vs.toArray } (.lst (ns.map V.int))) else none) (fun b => ?_) (.inl (.inr ⟨{ cls := .type "list", data := .seq vs.toArray }, if_pos rfl⟩)) (fun b u z => ?_) (fun b z => ?_) fun _ => hk
    . by_cases hb : b = a
      . exact .inr ⟨_, _, if_pos hb⟩
      . exact .inl (if_neg hb)
    . by_cases hb : b = a
      . have z' := (if_pos hb).symm.trans z
        cases z'
        subst hb
        exact ⟨ha, by rw [List.length_map]; exact hl, vs, _, rv, ha⟩
      . have z' := (if_neg hb).symm.trans z
        cases z'
    . by_cases hb : b = a
      . exact hb
      . exact absurd (if_neg hb) z
end L2
namespace L2
open PySem PySem.Spec PyProof.Rows
end L2
namespace L2
open PySem PySem.Spec PyProof.Rows
noncomputable def defArgs (s : Stmt) : Arguments := match s with
  | .FunctionDef _ a _ _ _ _ _ _ _ _ => a
  | _ => { posonlyargs := [], args := [], vararg := none, kwonlyargs := [], kw_defaults := [], kwarg := none, defaults := [] }
noncomputable def defBody (s : Stmt) : List Stmt := match s with
  | .FunctionDef _ _ b _ _ _ _ _ _ _ => b
  | _ => []
noncomputable def defScope (s : Stmt) : Scope := match s with
  | .FunctionDef _ _ _ _ _ _ sc _ _ _ => sc
  | _ => { kind := .function, names := [], isGenerator := false, isCoroutine := false }
noncomputable abbrev CX0 : CXT := fun _ _ _ _ _ _ => False
noncomputable abbrev E0 : XK := fun _ _ _ => False
theorem pass0 {X : Cx} : Passes CX0 X E0 := fun _ _ _ _ _ _ _ h => h.elim
structure Fun (K : PySem.W.Frag) (x qual : Str) (st : Stmt) (f : Addr) (fd : FuncData) : Prop where
  ex : ∃ (oc : Value) (od : Option Addr) (kV doc pm : Value) (an : Option Addr) (cdv ct : Value) (osl : Array (Option Value)),
    fd = PySem.W.fnOf x qual (defArgs st) (defBody st) (defScope st) .none kV doc pm an cdv ct /\ K.lookup f = some ⟨oc, od, .func fd, osl⟩ /\ PySem.W.codeIn K cdv qual = true
  kp : PySem.W.keepIn K (.ref f) = true
section
variable {P : Program} {w : World} {K : PySem.W.Frag} {mg : Str -> Option Value} {base : Heap}
theorem Fun.ok {x qual : Str} {st : Stmt} {f : Addr} {fd : FuncData} {N ps : List Str} {k : Nat} {sp : Sp} (F : Fun K x qual st f fd) (S : FnScope N ps (defScope st)) (len : ∀ vs H Q E, sp vs H Q E -> vs.length = ps.length)
    (hbody : ∀ (cdv : Value) (A : Around) (outer : List Env) (s : Shared) (H : Hp) (vs : List V) (Q : VK) (E : XK), Room k (A.deeper (envOfC qual (defScope st) s.heap.objs.size f cdv)) -> sp vs H Q E ->
      ∃ t, PSs (cxOf CX0 P w K mg base N qual (defScope st) f cdv A outer s H E).nox (defBody st) t /\ t { nx := fun _ H' => Q .non H', rt := Q } (start N vs) H) : FnOk P w K mg base CX0 (k + 1) f fd ps sp := by
  obtain ⟨oc, od, kV, doc, pm, an, cdv, ct, osl, rfl, lk, hcd⟩ := F.ex
  refine fn_of lk hcd S len fun A outer s H vs Q E hr hsp => ?_
  obtain ⟨t, h, q⟩ := hbody cdv A outer s H vs Q E hr hsp
  exact ⟨t, h.nox, q⟩
theorem Fun.binds {x qual : Str} {st : Stmt} {f : Addr} {fd : FuncData} {ps : List Str} (F : Fun K x qual st f fd)
    (h : ∀ (kV doc pm : Value) (an : Option Addr) (cdv ct : Value) (us : List Value), us.length = ps.length -> bindArgs (PySem.W.fnOf x qual (defArgs st) (defBody st) (defScope st) .none kV doc pm an cdv ct) ⟨us, []⟩ = pure (ps.zip us)) : Binds K fd ps [] := by
  obtain ⟨oc, od, kV, doc, pm, an, cdv, ct, osl, rfl, lk, hcd⟩ := F.ex
  exact .all (h kV doc pm an cdv ct)
theorem fun_mk {x qual : Str} {st : Stmt} {f : Addr} {oc : Value} {od an : Option Addr} {osl : Array (Option Value)} {kV doc pm cdv ct : Value} (l : K.lookup f = some ⟨oc, od, .func (PySem.W.fnOf x qual (defArgs st) (defBody st) (defScope st) .none kV doc pm an cdv ct), osl⟩)
    (c : PySem.W.codeIn K cdv qual = true) (k : PySem.W.keepIn K (.ref f) = true) : Fun K x qual st f (PySem.W.fnOf x qual (defArgs st) (defBody st) (defScope st) .none kV doc pm an cdv ct) := ⟨⟨oc, od, kV, doc, pm, an, cdv, ct, osl, rfl, l, c⟩, k⟩
end
theorem small1000 {n : Nat} (h : n <= 1000) : n < sizeLine := Nat.lt_of_le_of_lt h (by decide)
section
variable {X : Cx}
end
theorem ite2 {c A B : Prop} [Decidable c] (h1 : c -> A) (h2 : ¬ c -> B) : if c then A else B := by
  by_cases h : c
  . rw [if_pos h]
    exact h1 h
  . rw [if_neg h]
    exact h2 h
noncomputable def Same (H H' : Hp) : Prop := ∀ b o, H b = some o -> H' b = some o
theorem Same.refl (H : Hp) : Same H H := fun _ _ h => h
theorem Same.trans {H H1 H2 : Hp} (a : Same H H1) (b : Same H1 H2) : Same H H2 := fun c o h => b c o (a c o h)
theorem Same.free {H H' : Hp} (e : Same H H') {l : Addr} (h : H' l = Option.none) : H l = Option.none := by
  cases q : H l with
  | none => rfl
  | some o =>
    rw [e l o q] at h
    cases h
end L2
end
section
namespace L2
open PySem PySem.Spec PyProof.Rows
section
variable {κ : Type} [DecidableEq κ]
noncomputable def valV (kvs : List (κ × V)) (k : κ) : Option V := (kvs.find? fun kv => decide (kv.1 = k)).map (·.2)
noncomputable def putK (kvs : List (κ × V)) (k : κ) (v : V) : List (κ × V) :=
  if (kvs.any fun kv => decide (kv.1 = k)) = true then kvs.map (fun kv => if kv.1 = k then (kv.1, v) else kv) else kvs ++ [(k, v)]
theorem valV_pos {p : κ × V} {r : List (κ × V)} {k : κ} (e : p.1 = k) : valV (p :: r) k = some p.2 := by simp [valV, List.find?_cons, e]
theorem valV_neg {p : κ × V} {r : List (κ × V)} {k : κ} (e : ¬ p.1 = k) : valV (p :: r) k = valV r k := by simp [valV, List.find?_cons, e]
theorem valV_any (k : κ) : ∀ kvs : List (κ × V), (kvs.any fun kv => decide (kv.1 = k)) = (valV kvs k).isSome
  | [] => rfl
  | p :: r => by
    rw [List.any_cons]
    by_cases e : p.1 = k
    . simp only [valV_pos e, decide_eq_true e, Bool.true_or, Option.isSome_some]
    . rw [valV_neg e, decide_eq_false e, Bool.false_or]; exact valV_any k r
theorem length_putK (kvs : List (κ × V)) (k : κ) (v : V) : (putK kvs k v).length <= kvs.length + 1 := by
  unfold putK
  split
  . rw [List.length_map]; omega
  . rw [List.length_append, List.length_cons, List.length_nil]; omega
theorem RelO.isSome_eq {o : Option V} {u : Option Value} (r : RelO o u) : o.isSome = u.isSome := by
  cases o with
  | none => cases u with
    | none => rfl
    | some _ => exact (show False from r).elim
  | some _ => cases u with
    | none => exact (show False from r).elim
    | some _ => rfl
theorem KV.val {kvs : List (κ × V)} {vs : List (κ × Value)} (r : KV kvs vs) (k : κ) : RelO (valV kvs k) (valueAt vs k) := by
  unfold KV at r
  induction r with
  | nil => exact True.intro
  | @cons p q ps qs h t ih =>
    obtain ⟨h1, h2⟩ := h
    by_cases e : p.1 = k
    . have e' : q.1 = k := h1.symm.trans e
      have b : valueAt (q :: qs) k = some q.2 := by simp [valueAt, List.find?_cons, e']
      rw [valV_pos e, b]; exact h2
    . have e' : ¬ q.1 = k := fun z => e (h1.trans z)
      have b : valueAt (q :: qs) k = valueAt qs k := by simp [valueAt, List.find?_cons, e']
      rw [valV_neg e, b]; exact ih
theorem KV.any {kvs : List (κ × V)} {vs : List (κ × Value)} (r : KV kvs vs) (k : κ) : (kvs.any fun kv => decide (kv.1 = k)) = vs.any fun kv => decide (kv.1 = k) := by
  unfold KV at r
  induction r with
  | nil => rfl
  | cons h t ih => rw [List.any_cons, List.any_cons, ih, h.1]
theorem KV.repl {kvs : List (κ × V)} {vs : List (κ × Value)} (r : KV kvs vs) (k : κ) {y : V} {u : Value} (ry : RelV y u) :
    KV (kvs.map fun kv => if kv.1 = k then (kv.1, y) else kv) (vs.map fun kv => if kv.1 = k then (kv.1, u) else kv) := by
  unfold KV at r ⊢
  induction r with
  | nil => exact .nil
  | @cons p q ps qs h t ih =>
    rw [List.map_cons, List.map_cons]
    refine .cons ?_ ih
    obtain ⟨h1, h2⟩ := h
    by_cases e : p.1 = k
    . rw [if_pos e, if_pos (h1.symm.trans e)]; exact ⟨h1, ry⟩
    . rw [if_neg e, if_neg (fun z => e (h1.trans z))]; exact ⟨h1, h2⟩
theorem KV.put {kvs : List (κ × V)} {vs : List (κ × Value)} (r : KV kvs vs) (k : κ) {y : V} {u : Value} (ry : RelV y u) : KV (putK kvs k y) (stored vs k u) := by
  unfold putK stored
  rw [r.any k]
  by_cases e : (vs.any fun kv => decide (kv.1 = k)) = true
  . rw [if_pos e, if_pos e]; exact r.repl k ry
  . rw [if_neg e, if_neg e]; exact Paired.snoc r ⟨rfl, ry⟩
theorem KV.length {kvs : List (κ × V)} {vs : List (κ × Value)} (r : KV kvs vs) : kvs.length = vs.length := Paired.length r
end
theorem kV_is {P : Program} {w : World} {k : Key} {u : Value} (r : RelV (kV k) u) : (mixKind P w).is k u = true := by
  cases k with
  | inl i => obtain ⟨t, e⟩ := (show ∃ t, u = Value.int i t from r); subst e; exact mixKind_int P w i t
  | inr x => obtain ⟨t, e⟩ := (show ∃ t, u = Value.str x t from r); subst e; exact mixKind_str P w x t
theorem items_are {P : Program} {w : World} : ∀ {ks : List Key} {us : List Value}, Vals (ks.map kV) us -> ItemsAre (mixKind P w) ks us
  | [], _, r => by rw [List.map_nil] at r; cases r; exact .nil
  | k :: ks, _, r => by
    rw [List.map_cons] at r
    cases r with
    | cons h t => exact .cons (kV_is h) (items_are t)
noncomputable abbrev KT (H : Hp) : List (List Key × V) -> List (List Key × Addr × Value) -> Prop := Paired fun p q => p.1 = q.1 /\ H q.2.1 = some (.tup (p.1.map kV)) /\ RelV p.2 q.2.2
theorem KT.val {H : Hp} {kvs : List (List Key × V)} {xs : List (List Key × Addr × Value)} (r : KT H kvs xs) (k : List Key) : RelO (valV kvs k) ((atKey xs k).map (·.2)) := by
  induction r with
  | nil => exact True.intro
  | @cons p q ps qs h t ih =>
    obtain ⟨h1, _, h2⟩ := h
    by_cases e : p.1 = k
    . have e' : q.1 = k := h1.symm.trans e
      have b : atKey (q :: qs) k = some q.2 := by simp [atKey, List.find?_cons, e']
      rw [valV_pos e, b]; exact h2
    . have e' : ¬ q.1 = k := fun z => e (h1.trans z)
      have b : atKey (q :: qs) k = atKey qs k := by simp [atKey, List.find?_cons, e']
      rw [valV_neg e, b]; exact ih
theorem KT.repl {H : Hp} {kvs : List (List Key × V)} {xs : List (List Key × Addr × Value)} (r : KT H kvs xs) (k : List Key) {y : V} {u : Value} (ry : RelV y u) :
    KT H (kvs.map fun kv => if kv.1 = k then (kv.1, y) else kv) (xs.map (putAt k u)) := by
  induction r with
  | nil => exact .nil
  | @cons p q ps qs h t ih =>
    rw [List.map_cons, List.map_cons]
    refine .cons ?_ ih
    obtain ⟨h1, h2, h3⟩ := h
    unfold putAt
    by_cases e : p.1 = k
    . rw [if_pos e, if_pos (h1.symm.trans e)]; exact ⟨h1, h2, ry⟩
    . rw [if_neg e, if_neg (fun z => e (h1.trans z))]; exact ⟨h1, h2, h3⟩
theorem KT.put {H : Hp} {kvs : List (List Key × V)} {xs : List (List Key × Addr × Value)} (r : KT H kvs xs) (k : List Key) {b : Addr} {y : V} {u : Value} (hb : H b = some (.tup (k.map kV))) (ry : RelV y u) :
    KT H (putK kvs k y) (storedH xs k b u) := by
  have e : (kvs.any fun kv => decide (kv.1 = k)) = (atKey xs k).isSome := by
    rw [valV_any, (r.val k).isSome_eq, Option.isSome_map]
  unfold putK storedH
  rw [e]
  by_cases q : (atKey xs k).isSome = true
  . rw [if_pos q, if_pos q]; exact r.repl k ry
  . rw [if_neg q, if_neg q]; exact Paired.snoc r ⟨rfl, hb, ry⟩
theorem KT.keeps {H H' : Hp} {kvs : List (List Key × V)} {xs : List (List Key × Addr × Value)} (r : KT H kvs xs) (ht : ∀ b ys, H b = some (.tup ys) -> H' b = some (.tup ys)) : KT H' kvs xs :=
  Paired.mapP r fun _ _ z => ⟨z.1, ht _ _ z.2.1, z.2.2⟩
section
variable {P : Program} {w : World} {H : Hp} {h : Heap} {a : Addr}
theorem rd_of {u : HO} (ok : HOk P w H h) (e : Rd H a u) : ObjOk P w H h a u := e.ok ok
theorem dk_rd {kvs : List (Key × V)} (ok : HOk P w H h) (e : Rd H a (.dK kvs)) : kvs.length <= sizeLine /\ (a == sysModules) = false /\ ∃ vs, KV kvs vs /\ h.DictOf (mixKind P w) a vs :=
  show ObjOk P w H h a (.dK kvs) from rd_of ok e
theorem dk_of {kvs : List (Key × V)} (ok : HOk P w H h) (e : H a = some (.dK kvs)) : kvs.length <= sizeLine /\ (a == sysModules) = false /\ ∃ vs, KV kvs vs /\ h.DictOf (mixKind P w) a vs := dk_rd ok (.inl e)
theorem key_of {ks : List Key} (ok : HOk P w H h) (e : H a = some (.tup (ks.map kV))) : (tupleKind (mixKind P w)).is h ks a := by
  obtain ⟨_, its, r, o, h1, h2, n, h3⟩ := (show ObjOk P w H h a (.tup (ks.map kV)) from ok a _ e)
  exact ⟨o, its.toArray, n, h1, h2, h3, by simpa using items_are r⟩
theorem dt_rd {kvs : List (List Key × V)} (ok : HOk P w H h) (e : Rd H a (.dT kvs)) : kvs.length <= sizeLine /\ (a == sysModules) = false /\
    ∃ xs, KT H kvs xs /\ h.DictOfH (tupleKind (mixKind P w)) a xs := by
  obtain ⟨z, y, xs, r, o, es, ep, h1, h2, h3, h4, h5⟩ := (show ObjOk P w H h a (.dT kvs) from rd_of ok e)
  refine ⟨z, y, xs, r, o, es, ep, h1, h2, h3, h4, fun x hx => ?_, h5⟩
  have all : ∀ {l : List (List Key × V)} {m : List (List Key × Addr × Value)}, KT H l m -> ∀ x ∈ m, (tupleKind (mixKind P w)).is h x.1 x.2.1 := by
    intro l m q
    induction q with
    | nil => intro x hx; exact nomatch hx
    | @cons p q ps qs hq t ih =>
      intro x hx
      rcases List.mem_cons.mp hx with e | hx
      . subst e
        exact key_of ok (by rw [<- hq.1]; exact hq.2.1)
      . exact ih x hx
  exact all r x hx
theorem dt_of {kvs : List (List Key × V)} (ok : HOk P w H h) (e : H a = some (.dT kvs)) : kvs.length <= sizeLine /\ (a == sysModules) = false /\
    ∃ xs, KT H kvs xs /\ h.DictOfH (tupleKind (mixKind P w)) a xs := dt_rd ok (.inl e)
end
noncomputable def DGet (H : Hp) (a : Addr) (y : V) (r : Option V) : Prop :=
  (∃ kvs k, Rd H a (.dK kvs) /\ y = kV k /\ r = valV kvs k) \/ ∃ kvs k b, Rd H a (.dT kvs) /\ y = .ref b /\ H b = some (.tup (k.map kV)) /\ r = valV kvs k
noncomputable def DPut (H : Hp) (a : Addr) (y v : V) (H' : Hp) : Prop :=
  (∃ kvs k, H a = some (.dK kvs) /\ y = kV k /\ kvs.length < sizeLine /\ H' = upd H a (.dK (putK kvs k v))) \/
  ∃ kvs k b, H a = some (.dT kvs) /\ y = .ref b /\ H b = some (.tup (k.map kV)) /\ kvs.length < sizeLine /\ H' = upd H a (.dT (putK kvs k v))
theorem DPut.k {H : Hp} {a : Addr} {kvs : List (Key × V)} {k : Key} {v : V} (e : H a = some (.dK kvs)) (hl : kvs.length < sizeLine) : DPut H a (kV k) v (upd H a (.dK (putK kvs k v))) := .inl ⟨kvs, k, e, rfl, hl, rfl⟩
section
variable {X : Cx} {pins : List (Addr × Obj)} {σ : St} {H : Hp} {s : Shared} {a : Addr} {y v : V} {u r : Value} {o : Option V} {A : Around} {E : Value -> Shared -> Prop}
theorem Inv.big (I : Inv X pins σ H s) : sysModules < s.heap.objs.size := by
  have h : mainGlobals < s.heap.objs.size := (I.mod.glob.keeps I.bk).lt
  exact Nat.lt_trans (by decide) h
theorem d_getItem {Q : Value -> Shared -> Prop} (hu : A.units + 1 < cLine) (I : Inv X pins σ H s) (g : DGet H a y (some v)) (ry : RelV y u) (h : ∀ w' s', Inv X pins σ H s' -> RelV v w' -> Q w' s') :
    wpAny (model X.prog X.w) A (getItem (.ref a) u) Q E s := by
  rcases g with ⟨kvs, k, e, ey, l⟩ | ⟨kvs, k, b, e, ey, eb, l⟩
  . subst ey
    obtain ⟨z, hd, vs, rel, dd⟩ := dk_rd I.hok e
    obtain ⟨w', hw, rw'⟩ := RelO.some_of (v := v) (o := valueAt vs k) (by rw [l]; exact rel.val k)
    exact wpAny_getItem_of (kV_is ry) dd.mapOf hw (h w' _ (I.tok _) rw')
  . subst ey
    cases (show u = Value.ref b from ry)
    obtain ⟨z, hd, xs, rel, dd⟩ := dt_rd I.hok e
    obtain ⟨w', hw, rw'⟩ := RelO.some_of (v := v) (o := (atKey xs k).map (·.2)) (by rw [l]; exact rel.val k)
    obtain ⟨p, hp, hp2⟩ := Option.map_eq_some_iff.mp hw
    refine wpAny_getItem_heap (tupleKind_room_in1 hu) (key_of I.hok eb) dd hp ?_
    rw [hp2]
    exact h w' _ (I.tok _) rw'
theorem d_write {h' : Heap} {t' : Nat} {ob : HO} (I : Inv X pins σ H s) (mu : Mut (H a)) (hs : Heap.SameBut a s.heap h') (he : ∃ q, h'.get? a = some q) (new : ObjOk X.prog X.w (upd H a ob) h' a ob) :
    Inv X pins σ (upd H a ob) { s with heap := h', toks := t' } :=
  I.write (x := a) (e := a) mu (.inl rfl) (fun b q hb z => (hs.2 b hb).trans z) he new
theorem dk_new {P : Program} {w : World} {H' : Hp} {h' : Heap} {kvs : List (Key × V)} {vs : List (Key × Value)} (z : kvs.length <= sizeLine) (hd : (a == sysModules) = false) (rel : KV kvs vs) (dd : h'.DictOf (mixKind P w) a vs) :
    ObjOk P w H' h' a (.dK kvs) := ⟨z, hd, vs, rel, dd⟩
theorem d_setItem {H' : Hp} {Q : Unit -> Shared -> Prop} (hu : A.units + 1 < cLine) (I : Inv X pins σ H s) (g : DPut H a y v H') (ry : RelV y u) (rv : RelV v r) (h : ∀ s', Inv X pins σ H' s' -> Q () s') :
    wpAny (model X.prog X.w) A (setItem (.ref a) u r) Q E s := by
  rcases g with ⟨kvs, k, e, ey, l, eH⟩ | ⟨kvs, k, b, e, ey, eb, l, eH⟩
  . subst ey eH
    obtain ⟨z, hd, vs, rel, dd⟩ := dk_of I.hok e
    have hz : vs.length <= sizeLine := by rw [<- rel.length]; exact z
    have hl : (putK kvs k v).length <= sizeLine := by have := length_putK kvs k v; omega
    refine wpAny_setItem_pairs (hsz := hz) (kV_is ry) dd fun h' dd' hs => h _ ?_
    have he : ∃ q, h'.get? a = some q := let ⟨q, _, _, hq, _⟩ := dd'; ⟨q, hq⟩
    exact d_write I (by rw [e]; exact True.intro) hs he (dk_new hl hd (rel.put k rv) dd')
  . subst ey eH
    cases (show u = Value.ref b from ry)
    obtain ⟨z, hd, xs, rel, dd⟩ := dt_of I.hok e
    have hz : xs.length <= sizeLine := by rw [<- Paired.length rel]; exact z
    have hl : (putK kvs k v).length <= sizeLine := by have := length_putK kvs k v; omega
    refine wpAny_setItem_heap (hsz := hz) (tupleKind_room_in1 hu) (key_of I.hok eb) dd fun h' dd' hs => h _ ?_
    obtain ⟨q, es, ep, hq, h2, h3, h4, _, h5⟩ := dd'
    refine d_write I (by rw [e]; exact True.intro) hs ⟨q, hq⟩ ⟨hl, hd, _, (rel.put k eb rv).keeps fun c ys ec => ?_, q, es, ep, hq, h2, h3, h4, h5⟩
    rw [upd_ne (ne_of ec e (fun z => nomatch z))]
    exact ec
end
section
variable {X : Cx} {pins : List (Addr × Obj)} {σ : St} {H : Hp} {s : Shared} {a : Addr} {kvs : List (Key × V)} {k : Key} {u : Value} {A : Around} {E : Value -> Shared -> Prop}
end
noncomputable def NoSl (i : Expr) : Prop := ∀ ov iv, subscripted i false ov iv = operate [ov, iv] (getItem ov iv)
theorem subD_of {prog : Program} {w : World} {A : Around} {E : Value -> Shared -> Prop} {s : Shared} {env : Env} {value slice : Expr} {pos : Pos} {T id : String} {Q : Value -> Shared -> Prop}
    (hl : typeLookup (.type T) "__getitem__" = pure (some (.builtin id))) (hs : NoSl slice)
    (h : wpAny (model prog w) A (eval value env) (fun o s₁ => wpAny (model prog w) A (eval slice env) (fun i s₂ => s₂.TypeIs o T /\ wpAny (model prog w) A (getItem o i) Q E s₂) E s₁) E s) :
    wpAny (model prog w) A (eval (.Subscript value slice pos) env) Q E s := by
  refine Subscript_ (wpAny_mono h (fun o s₁ h₁ => wpAny_mono h₁ (fun i s₂ h₂ => ?_) fun _ _ x => x) fun _ _ x => x)
  obtain ⟨hT, h₂⟩ := h₂
  unfold subscriptTail
  refine wpAny_bind ?_
  rw [getitemInPython_of_ne hT.not_modules]
  refine wpAny_bind (wpAny_specialOf hT hl ?_)
  have fin : wpAny (model prog w) A (subscripted slice false o i) (fun r s₃ => wpAny (model prog w) A (letTemporaryGo value o r >>= fun _ => pure r) Q E s₃) E s₂ := by
    rw [hs o i]
    exact wpAny_operating (wpAny_mono h₂ (fun r s₃ h₃ => wpAny_bind (wpAny_letTemporaryGo (wpAny_pure h₃))) fun _ _ x => x)
  first
    | exact wpAny_pure (wpAny_bind fin)
    | exact wpAny_bind (wpAny_pure (wpAny_bind fin))
    | exact wpAny_bind fin
theorem dict_typeIs {X : Cx} {pins : List (Addr × Obj)} {σ : St} {H : Hp} {s : Shared} {a : Addr} {y : V} {o : Option V} (I : Inv X pins σ H s) (g : DGet H a y o) : s.TypeIs (.ref a) "dict" := by
  rcases g with ⟨kvs, k, e, _, _⟩ | ⟨kvs, k, b, e, _, _, _⟩
  . obtain ⟨_, _, vs, _, dd⟩ := dk_rd I.hok e
    exact dd.typeIs
  . obtain ⟨_, _, xs, _, dd⟩ := dt_rd I.hok e
    exact dd.typeIs
noncomputable def tDGet (td ty : TE) : TE := fun σ H Q => td σ H fun x H1 => ty σ H1 fun y H2 => ∃ a v, x = .ref a /\ DGet H2 a y (some v) /\ Q v H2
noncomputable def sDPut (td ty tv : TE) : TS := fun D σ H => tv σ H fun v H1 => td σ H1 fun x H2 => ty σ H2 fun y H3 => ∃ a H4, x = .ref a /\ DPut H3 a y v H4 /\ D.nx σ H4
section
variable {X : Cx} {o i e value : Expr} {pos pos' : Pos} {td ty tv : TE}
theorem pe_dget (hu : X.A.units + 1 < cLine) (ho : PE X o td) (hi : PE X i ty) (hs : NoSl i) : PE X (.Subscript o i pos) (tDGet td ty) := by
  intro pins s σ H Q I h
  refine subD_of PySem.F.slot_dict_getitem.lookup hs (thn (ho pins s σ H _ I h) fun u s1 ⟨x, H1, I1, rx, q1⟩ => thn (hi pins s1 σ H1 _ I1 q1) fun iv s2 ⟨y, H2, I2, ry, a, v, ex, g, q2⟩ => ?_)
  subst ex
  obtain rfl : u = Value.ref a := rx
  exact ⟨dict_typeIs I2 g, d_getItem hu I2 g ry fun w' s3 I3 rw' => ⟨v, H2, I3, rw', q2⟩⟩
theorem ps_dput (hu : X.A.units + 1 < cLine) (ho : PE X o td) (hi : PE X i ty) (hv : PE X value tv) (hs : swapsWith value (some (.Subscript o i pos')) pos.line X.env = pure false) :
    PS X (.Assign [.Subscript o i pos'] value pos) (sDPut td ty tv) := by
  intro pins s σ H D I h
  refine wpAny_Assign_Subscript (thn (hv pins s σ H _ I h) fun r s1 ⟨v, H1, I1, rv, q1⟩ => thn (ho pins s1 σ H1 _ I1 q1) fun u s2 ⟨x, H2, I2, rx, q2⟩ => thn (hi pins s2 σ H2 _ I2 q2) fun iv s3 ⟨y, H3, I3, ry, a, H4, ex, g, q3⟩ => ?_) hs
  subst ex
  obtain rfl : u = Value.ref a := rx
  exact d_setItem hu I3 g ry rv fun s4 I4 => ⟨σ, H4, I4, q3⟩
end
theorem dk_empty {P : Program} {w : World} {H : Hp} (h : Heap) (hb : sysModules < h.objs.size) : ObjOk P w H (h.push { cls := .type "dict", data := .dict #[] }) h.objs.size (.dK []) :=
  ⟨Nat.zero_le _, beq_eq_false_iff_ne.mpr (Ne.symm (Nat.ne_of_lt hb)), [], .nil, Heap.DictOf.new h⟩
noncomputable def tDNewK : TE := fun _ H Q => ∀ p, H p = none -> Q (.ref p) (upd H p (.dK []))
section
variable {X : Cx} {pos : Pos}
theorem pe_dnewK : PE X (.Dict [] [] pos) tDNewK := fun pins s σ H Q I h =>
  wpAny_Dict_empty ⟨.ref s.heap.objs.size, _, I.laid (a := s.heap.objs.size) (o := .dK []) (t' := s.toks) (fun _ _ q => Heap.get?_push_of_some _ q) (Nat.le_refl _) (dk_empty s.heap I.big), rfl, h _ (I.hok.fresh (Nat.le_refl _))⟩
end
structure M1 (X : Cx) (o : Expr) (m : Str) (apos : Pos) (e : Expr) (cpos : Pos) : Prop where
  base : attributeBase o m X.env (eval o X.env) = eval o X.env
  few : ((backTo cpos (starEach [e] X.env)).all (fun x => !x.1) && (backToKw cpos (keywordEach [] X.env)).all (fun x => x.1.isSome)
    && decide (([e] : List Expr).length + ([] : List Keyword).length + (if ([] : List Keyword).isEmpty then 0 else 1) < 30)) = true
  line : (apos.endLine == cpos.line) = true
  trees : backTo cpos (starEach [e] X.env) = [(false, eval e X.env)]
section
variable {X : Cx} {pins : List (Addr × Obj)} {σ : St} {H : Hp} {s : Shared} {a : Addr} {y : V} {u r : Value} {o : Option V} {A : Around} {E : Value -> Shared -> Prop}
end
section
variable {X : Cx} {o e : Expr} {apos cpos : Pos} {td ty : TE}
end
section
variable {X : Cx} {pins : List (Addr × Obj)} {σ : St} {H : Hp} {s : Shared} {a : Addr} {kvs : List (Key × V)} {A : Around} {E : Value -> Shared -> Prop}
end
section
variable {X : Cx} {pins : List (Addr × Obj)} {σ : St} {H : Hp} {s : Shared} {a : Addr} {y : V} {u : Value} {A : Around} {E : Value -> Shared -> Prop}
end
end L2
namespace L2
open PySem PySem.Spec PyProof.Rows
section
variable {X : Cx}
end
section
variable {κ : Type} [DecidableEq κ]
end
end L2
end
section
namespace L2
open PySem PySem.Spec PyProof.Rows
section
variable {prog : Program} {w : World} {A : Around} {R : Result -> Shared -> Prop} {s : Shared}
theorem compLoop_any {elt target iter : Expr} {ifs : List Expr} {scope : Scope} {pos : Pos} {it acc : Value} {env : Env} (I : Nat -> Shared -> Prop)
    (turn : ∀ n s, I n s -> wpAny (model prog w) A (pyNext it) (fun r s₁ => match r with
      | none => R (.ok .next) s₁
      | some v => wpAny (model prog w) A (letOwnedTupleGo target it v) (fun _ s₁ => wpAny (model prog w) A (assign target env v) (fun _ s₂ =>
          wpAny (model prog w) A (forIn ifs true fun c r => if r = true then do let ok <- isTrue c env (eval c env); pure (ForInStep.yield ok) else pure (ForInStep.yield r)) (fun ok s₃ =>
            if ok = true then wpAny (model prog w) A (eval elt env) (fun x s₄ =>
              wpAny (model prog w) A (call (.builtin "list.append") [acc, x]) (fun _ s₅ => ∃ m, m < n /\ I m s₅) (fun _ _ => False) s₄) (fun _ _ => False) s₃
            else ∃ m, m < n /\ I m s₃) (fun _ _ => False) s₂) (fun _ _ => False) s₁) (fun _ _ => False) s₁) (fun _ _ => False) s)
    (n : Nat) (h : I n s) :
    codeAny (model prog w) A (.compLoop (.ListComp elt [⟨target, iter, ifs, 0⟩] scope pos) 0 it acc env) R s := by
  refine codeAny_loop rfl I (fun n s hI => ?_) n h
  show wpAny _ A ((compTurn (.ListComp elt [⟨target, iter, ifs, 0⟩] scope pos) 0 it acc env).onRaise (fun x => do noteFrame x env; theTreesLotGoes x)) _ _ s
  refine wpAny_noted ?_
  rw [compTurn_list]
  refine wpAny_bind (wpAny_standAt (wpAny_bind (wpAny_mono (turn n s hI) (fun r s₁ h₁ => ?_) fun _ _ h' => h'.elim)))
  cases r with
  | none => exact wpAny_pure h₁
  | some v =>
    refine wpAny_bind (wpAny_mono h₁ (fun _ s₁ h₁ => ?_) fun _ _ h' => h'.elim)
    refine wpAny_bind (wpAny_mono h₁ (fun _ s₂ h₂ => wpAny_bind (wpAny_mono h₂ (fun ok s₃ h₃ => ?_) fun _ _ h' => h'.elim)) fun _ _ h' => h'.elim)
    cases ok with
    | false => exact wpAny_pure ⟨rfl, h₃⟩
    | true =>
      exact wpAny_bind (wpAny_bind (wpAny_mono h₃ (fun x s₄ h₄ => wpAny_bind (wpAny_mono h₄ (fun _ s₅ h₅ => wpAny_pure (wpAny_pure ⟨rfl, h₅⟩)) fun _ _ h' => h'.elim)) fun _ _ h' => h'.elim))
end
noncomputable def clOf (cells : List (Str × Addr)) : List (Str × NameKind) -> List (Str × Addr) -> List (Str × Addr)
  | [], acc => acc
  | (n, k) :: r, acc => clOf cells r (if k == .free then match cells.lookup n with | some c => (n, c) :: acc | none => acc else acc)
theorem closureFor_go {env : Env} : ∀ (names : List (Str × NameKind)) (acc : List (Str × Addr)), (∀ y ∈ names, y.2 = .free -> ∃ c, env.cells.lookup y.1 = some c) ->
    (forIn names acc (fun (x : Str × NameKind) (cs : List (Str × Addr)) => (if x.2 == .free then (do let a <- cellOf env x.1; pure (ForInStep.yield ((x.1, a) :: cs))) else pure (ForInStep.yield cs) : Sem (ForInStep (List (Str × Addr)))))) = pure (clOf env.cells names acc)
  | [], acc, _ => rfl
  | (n, k) :: r, acc, h => by
    rw [List.forIn_cons]
    have hr := fun a => closureFor_go r a fun y hy => h y (List.mem_cons_of_mem _ hy)
    by_cases hk : k = .free
    . subst hk
      obtain ⟨c, e⟩ := h (n, .free) List.mem_cons_self rfl
      have ec : cellOf env n = pure c := by unfold cellOf; rw [e]
      simp only [beq_self_eq_true, if_true, ec, clOf, e]
      exact hr _
    . have hb : (k == NameKind.free) = false := by simpa using hk
      simp only [hb, Bool.false_eq_true, if_false, clOf]
      exact hr _
theorem closureFor_eq {scope : Scope} {env : Env} (h : ∀ y ∈ scope.names, y.2 = .free -> ∃ c, env.cells.lookup y.1 = some c) : closureFor scope env = pure (clOf env.cells scope.names []) := by
  have q := closureFor_go (env := env) scope.names [] h
  unfold closureFor
  show (forIn scope.names [] _ >>= fun cs => pure cs) = _
  first
    | (rw [show (forIn scope.names [] _ : Sem (List (Str × Addr))) = _ from q]; rfl)
    | (erw [q]; rfl)
end L2
end
section
namespace L2
open PySem PySem.Spec PyProof.Rows
noncomputable def maskS (y : Str) : Str := ⟨#[0] ++ y.cps⟩
noncomputable def maskN (own N : List Str) : List Str := own ++ N.map fun y => if own.contains y then maskS y else y
noncomputable def cxComp (X : Cx) (own : List Str) (scope : Scope) (C : Addr) (fp : List Addr) (s : Shared) (H : Hp) : Cx :=
  { X with N := maskN own X.N, s₀ := s, H₀ := H, env := compEnvC scope (clOf X.env.cells scope.names []) C X.env, outer := X.stack, stack := X.stack, ex := fp, fn := fun x => own.contains x, pn := [], xe := fun _ _ => False }
structure CompScope (own N : List Str) (sc scope : Scope) : Prop where
  nd : (maskN own N).Nodup
  kind : scope.kind = .function
  nocell : ∀ y ∈ scope.names, y.2 ≠ .cell
  loc : ∀ y ∈ scope.names, y.2 = .local -> scope.names.lookup y.1 = some .local
  fr : ∀ y ∈ scope.names, y.2 = .free -> scope.names.lookup y.1 = some .free
  up : ∀ y ∈ scope.names, y.2 = .free -> sc.names.lookup y.1 = some .cell \/ sc.names.lookup y.1 = some .free
  ow : ∀ x ∈ own, scope.names.lookup x = some .local
  mask : ∀ x ∈ own, scope.names.lookup (maskS x) = none
  only : ∀ y ∈ scope.names, y.2 = .local -> y.1 ∈ own \/ y.1 ∉ N
theorem lookup_mem {β : Type} : ∀ {l : List (Str × β)} {x : Str} {k : β}, l.lookup x = some k -> (x, k) ∈ l
  | [], _, _, h => by simp at h
  | (n, k') :: r, x, k, h => by
    rw [List.lookup_cons] at h
    by_cases e : x = n
    . subst e; simp at h; subst h; exact List.mem_cons_self
    . have : (x == n) = false := by simpa using e
      rw [this] at h
      exact List.mem_cons_of_mem _ (lookup_mem h)
theorem clOf_spec {cells : List (Str × Addr)} : ∀ (names : List (Str × NameKind)) (acc : List (Str × Addr)) (x : Str) (c : Addr), (clOf cells names acc).lookup x = some c -> (cells.lookup x = some c /\ (x, NameKind.free) ∈ names) \/ acc.lookup x = some c
  | [], acc, x, c, h => .inr h
  | (n, k) :: r, acc, x, c, h => by
    rw [clOf] at h
    rcases clOf_spec r _ x c h with ⟨h1, h2⟩ | h1
    . exact .inl ⟨h1, List.mem_cons_of_mem _ h2⟩
    . by_cases hk : k = .free
      . subst hk
        simp only [beq_self_eq_true, if_true] at h1
        cases e : cells.lookup n with
        | none => rw [e] at h1; exact .inr h1
        | some c' =>
          rw [e] at h1
          dsimp only at h1
          rw [List.lookup_cons] at h1
          by_cases ex : x = n
          . subst ex; simp at h1; subst h1; exact .inl ⟨e, List.mem_cons_self⟩
          . have : (x == n) = false := by simpa using ex
            rw [this] at h1; exact .inr h1
      . have hb : (k == NameKind.free) = false := by simpa using hk
        rw [hb] at h1; exact .inr h1
theorem clOf_acc {cells : List (Str × Addr)} : ∀ (names : List (Str × NameKind)) (acc : List (Str × Addr)) (x : Str), (acc.lookup x).isSome = true -> ((clOf cells names acc).lookup x).isSome = true
  | [], acc, x, h => h
  | (n, k) :: r, acc, x, h => by
    rw [clOf]
    refine clOf_acc r _ x ?_
    split
    . split
      . rw [List.lookup_cons]; split
        . rfl
        . exact h
      . exact h
    . exact h
theorem clOf_has {cells : List (Str × Addr)} : ∀ (names : List (Str × NameKind)) (acc : List (Str × Addr)) (x : Str) (c : Addr), (x, NameKind.free) ∈ names -> cells.lookup x = some c -> ((clOf cells names acc).lookup x).isSome = true
  | (n, k) :: r, acc, x, c, hm, e => by
    rw [clOf]
    rcases List.mem_cons.mp hm with z | z
    . cases z
      refine clOf_acc r _ _ ?_
      simp [e]
    . exact clOf_has r _ x c z e
section
variable {X : Cx} {own : List Str} {scope : Scope} {C : Addr} {fp : List Addr} {s : Shared} {H : Hp}
theorem relabel_lookup {env : Env} : ∀ {names : List (Str × NameKind)} {x : Str} {k : NameKind},
    (names.map fun (n, k) => if (k == NameKind.free && env.scope.kind == .function && env.kindOf n == some .cell) then (n, NameKind.cell) else (n, k)).lookup x = some k ->
    ∃ k', names.lookup x = some k' /\ (k = k' \/ (k = .cell /\ k' = .free))
  | [], _, _, h => by simp at h
  | (n, k0) :: r, x, k, h => by
    have ih := @relabel_lookup env r x k
    rw [List.map_cons] at h
    by_cases ex : x = n
    . subst ex
      refine ⟨k0, by simp, ?_⟩
      dsimp only at h
      split at h
      . rename_i hc
        simp at h
        have : k0 = .free := by
          simp only [Bool.and_eq_true, beq_iff_eq] at hc
          exact hc.1.1
        exact .inr ⟨h.symm, this⟩
      . simp at h; exact .inl h.symm
    . have hb : (x == n) = false := by simpa using ex
      have h2 : (r.map fun (n, k) => if (k == NameKind.free && env.scope.kind == .function && env.kindOf n == some .cell) then (n, NameKind.cell) else (n, k)).lookup x = some k := by
        dsimp only at h
        split at h <;> (rw [List.lookup_cons, hb] at h; exact h)
      obtain ⟨k', e, q⟩ := ih h2
      exact ⟨k', by rw [List.lookup_cons, hb]; exact e, q⟩
theorem relabel_local {env : Env} {x : Str} : (relabel scope env).names.lookup x = some .local -> scope.names.lookup x = some .local := fun h => by
  obtain ⟨k', e, q⟩ := relabel_lookup (env := env) h
  rcases q with q | ⟨q, _⟩
  . rw [e, <- q]
  . cases q
theorem relabel_cf {env : Env} {x : Str} (nc : ∀ y ∈ scope.names, y.2 ≠ .cell) : ((relabel scope env).names.lookup x = some .cell \/ (relabel scope env).names.lookup x = some .free) -> scope.names.lookup x = some .free := fun h => by
  rcases h with h | h
  . obtain ⟨k', e, q⟩ := relabel_lookup (env := env) h
    rcases q with q | ⟨_, q⟩
    . rw [<- q] at e; exact absurd rfl (nc _ (lookup_mem e))
    . rw [e, q]
  . obtain ⟨k', e, q⟩ := relabel_lookup (env := env) h
    rcases q with q | ⟨q, _⟩
    . rw [e, <- q]
    . cases q
theorem cxComp_ok {pins : List (Addr × Obj)} {σ : St} (S : CompScope own X.N X.env.scope scope) (I : Inv X pins σ H s) (hC : s.heap.objs.size <= C) (hf : ∀ b ∈ fp, FpOk X pins H b) (ho : ∀ b ∈ fp, ∃ o, s.heap.get? b = some o) : (cxComp X own scope C fp s H).Ok := by
  have cl : ∀ x c, (clOf X.env.cells scope.names []).lookup x = some c -> X.env.cells.lookup x = some c /\ (x, NameKind.free) ∈ scope.names := fun x c e => by
    rcases clOf_spec _ _ _ _ e with q | q
    . exact q
    . simp at q
  refine ⟨I.ok.mod, S.kind, I.ok.glob, I.ok.blt, hC, fun x y c h1 h2 => I.ok.inj x y c (cl x c h1).1 (cl y c h2).1, fun x hx => ?_, fun x c h1 h2 => ?_, I.ok.hd, I.ok.frames, .inl rfl, fun b hb => ⟨?_, fun x c e => (hf b hb).2.2.2.2.1 x c (cl x c e).1⟩, I.bs, Nat.le_trans I.ok.bsz I.sz, fun b o e hb => ?_, fun b hb z => ?_, I.stack, I.stkFree⟩
  . have hx' : ((relabel scope X.env).names.lookup x = some .cell \/ (relabel scope X.env).names.lookup x = some .free) := hx
    have q := relabel_cf S.nocell hx'
    have m := lookup_mem q
    obtain ⟨c, e⟩ := I.ok.has x (by rcases S.up _ m rfl with z | z; exact .inl z; exact .inr z)
    exact Option.isSome_iff_exists.mp (clOf_has scope.names [] x c m e)
  . have h1' : own.contains x = true := h1
    have m := (cl x c h2).2
    have l := S.ow x (by simpa using h1')
    rw [S.fr _ m rfl] at l; cases l
  . obtain ⟨o, e⟩ := ho b hb
    exact Nat.ne_of_lt (Nat.lt_of_lt_of_le (Heap.lt_size e) hC)
  . rcases (hf b hb).2.2.2.1 with z | z
    . exact I.ok.noex b o e z
    . exact absurd (Nat.lt_of_lt_of_le (Heap.lt_size e) (Nat.le_trans I.ok.bsz z)) (Nat.lt_irrefl _)
  . have z' : b ∈ frs X.stack := z
    rcases List.mem_cons.mp (I.stkSub b z') with q | q
    . exact (hf b hb).2.1 q
    . exact (hf b hb).2.2.1 q
theorem cxComp_inv {pins : List (Addr × Obj)} {σ : St} {h' : Heap} {t' : Nat} {m : Str -> Option Value} {H' : Hp} (S : CompScope own X.N X.env.scope scope) (I : Inv X pins σ H s) (hC : s.heap.objs.size <= C) (hf : ∀ b ∈ fp, FpOk X pins H b) (ho : ∀ b ∈ fp, ∃ o, s.heap.get? b = some o)
    (hk : ∀ b o, s.heap.get? b = some o -> h'.get? b = some o) (hn : h'.Ns C m) (hU : Un (frs X.stack) fp H H' s.heap h') (hok : HOk X.prog X.w H' h') (hC0 : H' C = none) (hle : ∀ b, b < s.heap.objs.size -> H' b = H b) :
    Inv (cxComp X own scope C fp s H) [] (List.replicate own.length none ++ σ) H' { s with heap := h', toks := t' } := by
  have cl : ∀ x c, (clOf X.env.cells scope.names []).lookup x = some c -> X.env.cells.lookup x = some c /\ (x, NameKind.free) ∈ scope.names := fun x c e => by
    rcases clOf_spec _ _ _ _ e with q | q
    . exact q
    . simp at q
  refine ⟨cxComp_ok S I hC hf ho, rfl, I.bare, hU, ⟨m, hn, fun i x v h1 h2 h3 => ?_⟩, fun x c e => ?_, hC0, fun x c e => ?_, fun p hp => ?_, hok, ?_⟩
  . have h1' : (maskN own X.N)[i]? = some x := h1
    by_cases hi : i < own.length
    . rw [List.getElem?_append_left (by simpa using hi), List.getElem?_replicate] at h2
      split at h2 <;> cases h2
    . rw [List.getElem?_append_right (by simpa using hi), List.length_replicate] at h2
      unfold maskN at h1'
      rw [List.getElem?_append_right (by simpa using hi), List.getElem?_map] at h1'
      cases ey : X.N[i - own.length]? with
      | none => rw [ey] at h1'; cases h1'
      | some y =>
        rw [ey] at h1'
        have ex : (if own.contains y then maskS y else y) = x := by simpa using h1'
        have h3' : (relabel scope X.env).names.lookup x = some .local \/ (relabel scope X.env).names.lookup x = some .cell \/ (relabel scope X.env).names.lookup x = some .free := h3
        by_cases hyo : own.contains y = true
        . rw [if_pos hyo] at ex
          subst ex
          have none := S.mask y (by simpa using hyo)
          rcases h3' with z | z
          . rw [relabel_local z] at none; cases none
          . rw [relabel_cf S.nocell z] at none; cases none
        . rw [if_neg hyo] at ex
          subst ex
          rcases h3' with z | z
          . rcases S.only _ (lookup_mem (relabel_local z)) rfl with q | q
            . exact absurd (by simpa using q) hyo
            . exact absurd (List.mem_of_getElem? ey) q
          . have q := relabel_cf S.nocell z
            have mm := lookup_mem q
            have up := S.up _ mm rfl
            obtain ⟨m0, _, hl⟩ := I.loc
            obtain ⟨u, r, l⟩ := hl _ y v ey h2 (.inr up)
            refine ⟨u, r, .inr ⟨z, ?_⟩⟩
            rcases l with ⟨k, _⟩ | ⟨k, c, e, ic⟩
            . have k' : X.env.scope.names.lookup y = some .local := k
              rcases up with u1 | u1 <;> (rw [u1] at k'; cases k')
            . obtain ⟨c', e'⟩ := Option.isSome_iff_exists.mp (clOf_has scope.names [] y c mm e)
              have e2 := (cl y c' e').1
              rw [e] at e2; cases e2
              obtain ⟨o, g1, g2⟩ := ic
              exact ⟨c, e', o, hk _ _ g1, g2⟩
  . obtain ⟨v, o, g1, g2⟩ := I.cell x c (cl x c e).1
    exact ⟨v, o, hk _ _ g1, g2⟩
  . obtain ⟨v, o, g1, g2⟩ := I.cell x c (cl x c e).1
    rw [hle c (Heap.lt_size g1)]
    exact I.freeC x c (cl x c e).1
  . exact absurd (show p ∈ ([] : List (Addr × Obj)) from hp) (by simp)
  . show (List.replicate own.length none ++ σ).length = (maskN own X.N).length
    unfold maskN
    rw [List.length_append, List.length_append, List.length_replicate, List.length_map, I.len]
theorem Inv.behind {pins : List (Addr × Obj)} {σ σ' : St} {pins' : List (Addr × Obj)} {H' : Hp} {s' : Shared} (I : Inv X pins σ H s) (hf : ∀ b ∈ fp, FpOk X pins H b) (J : Inv (cxComp X own scope C fp s H) pins' σ' H' s') : Inv X pins σ H' s' := by
  refine I.call' J.os J.base J.hok J.bare fun b hb => ?_
  obtain ⟨h0, h1, h2, h3, h4, h5⟩ := hf b hb
  exact ⟨h3, h1, h4, h5⟩
end
end L2
end
section
namespace L2
open PySem PySem.Spec PyProof.Rows
noncomputable def PTs (Y : Cx) (ifs : List Expr) (t : TT) : Prop :=
  ∀ (pins : List (Addr × Obj)) (s : Shared) (σ : St) (H : Hp) (Q : Bool -> Hp -> Prop), Inv Y pins σ H s -> t σ H Q ->
    wpAny (model Y.prog Y.w) Y.A (forIn ifs true fun c r => if r = true then do let ok <- isTrue c Y.env (eval c Y.env); pure (ForInStep.yield ok) else pure (ForInStep.yield r)) (TP Y pins σ Q) Y.xe s
noncomputable def tAll : TT := fun _ H Q => Q true H
theorem pts_nil {Y : Cx} : PTs Y [] tAll := fun _ _ _ H _ I h => wpAny_tests_nil ⟨H, I, h⟩
theorem pts_one {Y : Cx} {c : Expr} {t : TT} (h : PT Y c t) : PTs Y [c] t := fun pins s σ H Q I q => wpAny_tests_one (h pins s σ H Q I q)
noncomputable def CompW (no : Nat) (J : It) (g : TG) (tt : TT) (te : TE) (σ : St) (H1 : Hp) (Q : VK) : Prop := ∀ D, H1 D = none ->
  ∃ W : Nat -> Nat -> St -> Hp -> Prop, (∃ m, W 0 m (List.replicate no none ++ σ) (upd H1 D (.lst []))) /\ ∀ i m σ' H', W i m σ' H' ->
    (J.stop i H' /\ Q (.ref D) H') \/ (J.go i H' /\ ∀ x H2, J.yld i H' x H2 -> g x σ' H2 fun σ3 H3 => tt σ3 H3 fun b H4 =>
      if b = true then te σ3 H4 fun v H5 => ∃ xs, H5 D = some (.lst xs) /\ xs.length < sizeLine /\ ∃ m', m' < m /\ W (i + 1) m' σ3 (upd H5 D (.lst (xs ++ [v]))) else ∃ m', m' < m /\ W (i + 1) m' σ3 H4)
noncomputable def tCompB (no : Nat) (wi : TI) (g : TG) (tt : TT) (te : TE) : TE := fun σ H Q => wi σ H fun J H1 => CompW no J g tt te σ H1 Q
section
variable {X : Cx} {own : List Str} {scope : Scope} {elt tg iter : Expr} {ifs : List Expr} {pos : Pos} {wi : TI} {g : TG} {tt : TT} {te : TE}
theorem comp_block {pins : List (Addr × Obj)} {σ : St} {H : Hp} {s : Shared} {it : Addr} {fp : List Addr} {tn : Nat -> Heap -> Prop} {J : It} {Q : VK} {RR : Value -> Addr -> Result -> Shared -> Prop} {E : Value -> Shared -> Prop}
    (hc : X.calm = true) (S : CompScope own X.N X.env.scope scope)
    (hg : ∀ C fp s H, PG (cxComp X own scope C fp s H) tg g) (ht : ∀ C fp s H, PTs (cxComp X own scope C fp s H) ifs tt) (he : ∀ C fp s H, PE (cxComp X own scope C fp s H) elt te)
    (I : Inv X pins σ H s) (T : Turn X.prog X.w X.K tg J fp it tn) (st : tn 0 s.heap) (hf : ∀ b ∈ fp, FpOk X pins H b)
    (h : CompW own.length J g tt te σ H Q)
    (hRR : ∀ D C s' H' m, Inv X pins σ H' s' -> s'.heap.Ns C m -> H' C = none -> s.heap.objs.size <= C -> Q (.ref D) H' -> RR (.ref D) C (.ok .next) s') :
    wpAny (model X.prog X.w) X.A (newList []) (fun acc s₃ => wpAny (model X.prog X.w) X.A (newFunctionEnv scope X.env.globals (clOf X.env.cells scope.names []) [] X.env.qual none .none (some X.env)) (fun cenv s₄ =>
      codeAny (model X.prog X.w) X.A (.compStart (.ListComp elt [⟨tg, iter, ifs, 0⟩] scope pos) 0 (.ref it) acc { cenv with scope := relabel scope X.env }) (RR acc cenv.locals) s₄) E s₃) E s := by
  refine wpAny_newObj_type (wpAny_newFunctionEnv S.nocell (by intro y hy; simp at hy) (fun h₁ hns₁ hsb₁ => ?_) S.kind)
  dsimp only at hns₁ hsb₁ ⊢
  generalize hH2 : s.heap.push { cls := .type "list", dict := none, data := .seq ([] : List Value).toArray } = H2 at hns₁ hsb₁ ⊢
  have hC : H2.objs.size = s.heap.objs.size + 1 := by rw [<- hH2, Heap.size_push]
  have hDC : s.heap.objs.size ≠ H2.objs.size := by rw [hC]; exact Nat.ne_of_lt (Nat.lt_succ_self _)
  have hCle : s.heap.objs.size <= H2.objs.size := by rw [hC]; exact Nat.le_succ _
  have below : ∀ b, b < s.heap.objs.size -> b ≠ H2.objs.size := fun b hb => by rw [hC]; exact Nat.ne_of_lt (Nat.lt_succ_of_lt hb)
  have old : ∀ b o, s.heap.get? b = some o -> h₁.get? b = some o := fun b o e => hsb₁.extBut b o (below b (Heap.lt_size e)) (Heap.get?_push_of_some _ (hH2 ▸ Heap.get?_push_of_some _ e))
  have hacc : h₁.get? s.heap.objs.size = some { cls := .type "list", dict := none, data := .seq ([] : List Value).toArray } := hsb₁.extBut _ _ hDC (Heap.get?_push_of_some _ (hH2 ▸ Heap.get?_push_size _ rfl))
  have ho : ∀ b ∈ fp, ∃ o, s.heap.get? b = some o := fun b hb => let ⟨o, e, _⟩ := T.obj _ _ st b hb; ⟨o, e⟩
  have fresh : ∀ a, s.heap.objs.size <= a -> H a = none := fun a ha => I.hok.fresh ha
  generalize hD : s.heap.objs.size = D at *
  generalize hCC : H2.objs.size = C at *
  have I1 : Inv (cxComp X own scope C fp s H) [] (List.replicate own.length none ++ σ) (upd H D (.lst [])) { s with heap := h₁, toks := s.toks + ([] : List (Str × Value)).length } := by
    refine cxComp_inv S I (by rw [hD]; exact hCle) hf ho old hns₁ (Un.laid old (by rw [hD]; exact Nat.le_refl _) (fresh D (Nat.le_refl _))) (I.hok.laid old (by rw [hD]; exact Nat.le_refl _) ?_) ?_ fun b hb => ?_
    . exact ⟨Nat.zero_le _, [], 0, .nil, hacc⟩
    . rw [upd_ne (Ne.symm hDC)]; exact fresh C hCle
    . rw [hD] at hb; rw [upd_ne (Nat.ne_of_lt hb)]
  obtain ⟨W, ⟨m0, w0⟩, turn⟩ := h D (fresh D (Nat.le_refl _))
  have fpY : ∀ {H' : Hp}, (∀ b ∈ fp, H' b = none) -> ∀ b ∈ fp, FpOk (cxComp X own scope C fp s H) [] H' b := fun hn b hb => by
    obtain ⟨q0, q1, q2, q3, q4, q5⟩ := hf b hb
    refine ⟨hn b hb, I1.ok.exf b hb |>.1, I1.ok.exfs b hb, .inl hb, I1.ok.exf b hb |>.2, fun p hp => absurd (show p ∈ ([] : List (Addr × Obj)) from hp) (by simp)⟩
  have loop : codeAny (model X.prog X.w) X.A (.compLoop (.ListComp elt [⟨tg, iter, ifs, 0⟩] scope pos) 0 (.ref it) (.ref D) (compEnvC scope (clOf X.env.cells scope.names []) C X.env)) (RR (.ref D) C) { s with heap := h₁, toks := s.toks + ([] : List (Str × Value)).length } := by
    refine compLoop_any (fun n s' => ∃ i σ' H', Inv (cxComp X own scope C fp s H) [] σ' H' s' /\ tn i s'.heap /\ (∀ b ∈ fp, H' b = none) /\ W i n σ' H') ?_ m0
      ⟨0, _, _, I1, T.keep _ _ _ st fun b _ o e => old b o e, fun b hb => ?_, w0⟩
    . rintro n s3 ⟨i, σ3, H3, I3, st3, fr3, w3⟩
      rcases turn i n σ3 H3 w3 with ⟨stop, qn⟩ | ⟨go, step⟩
      . refine thn (T.done (cxComp X own scope C fp s H) rfl rfl rfl hc i [] s3 σ3 H3 _ I3 (fpY fr3) st3 stop) fun r s4 ⟨hr, I4⟩ => ?_
        subst hr
        obtain ⟨m, hm, _⟩ := I4.loc
        exact hRR D C s4 H3 m (I.behind hf I4) hm I4.free hCle qn
      . refine thn (T.item (cxComp X own scope C fp s H) rfl rfl rfl hc i [] s3 σ3 H3 _ I3 (fpY fr3) st3 go) fun r s4 ⟨u, hr, h4⟩ => ?_
        subst hr
        dsimp only
        refine thn h4 fun _ s5 ⟨x, H5, I5, r5, y5, st5, fr5⟩ => ?_
        have I5' := I5.pinned (fpY fr5) (T.obj _ _ st5)
        refine thn (hg C fp s H _ s5 σ3 H5 x u _ I5' r5 (step x H5 y5)) fun _ s6 ⟨σ6, H6, I6, q6⟩ => ?_
        refine thn (ht C fp s H _ s6 σ6 H6 _ I6 q6) fun b s7 ⟨H7, I7, q7⟩ => ?_
        have again : ∀ {s8 : Shared} {σ7 : St} {H7 : Hp}, Inv (cxComp X own scope C fp s H) ([] ++ pinsAt fp s5.heap) σ7 H7 s8 -> (∃ m', m' < n /\ W (i + 1) m' σ7 H7) -> ∃ m, m < n /\ ∃ i σ' H', Inv (cxComp X own scope C fp s H) [] σ' H' s8 /\ tn i s8.heap /\ (∀ b ∈ fp, H' b = none) /\ W i m σ' H' := fun {s8 σ7 H7} I7 n7 => by
          obtain ⟨m', hm, w7⟩ := n7
          refine ⟨m', hm, i + 1, σ7, H7, I7.unpinned, T.keep _ _ _ st5 fun b hb o e => (I7.pin (b, o) (List.mem_append_right _ (List.mem_append_right _ (mem_pinsAt hb e)))).1, fun b hb => ?_, w7⟩
          obtain ⟨o, e, d⟩ := T.obj _ _ st5 b hb
          exact (I7.pin (b, o) (List.mem_append_right _ (List.mem_append_right _ (mem_pinsAt hb e)))).2.1
        cases b with
        | false =>
          rw [if_neg (by simp)] at q7
          exact again I7 q7
        | true =>
          rw [if_pos rfl] at q7 ⊢
          refine thn (he C fp s H _ s7 σ6 H7 _ I7 q7) fun u8 s8 ⟨v, H8, I8, r8, xs, hx, hz, q8⟩ => ?_
          refine thn (mt_append (X := cxComp X own scope C fp s H) _ s8 σ6 H8 (.ref D) [v] (.ref D) [u8] (fun _ H9 => ∃ m', m' < n /\ W (i + 1) m' σ6 H9) I8 rfl (.cons r8 .nil) ⟨D, xs, v, rfl, rfl, hx, hz, q8⟩) fun _ s9 ⟨_, H9, I9, _, q9⟩ => ?_
          exact again I9 q9
    . have lt : b < D := by
        obtain ⟨o, e⟩ := ho b hb
        exact hD ▸ Heap.lt_size e
      rw [upd_ne (Nat.ne_of_lt lt)]
      exact (hf b hb).1
  exact codeAny_compStart_list loop (T.self _ 0 _ _ _ (T.keep _ _ _ st fun b _ o e => old b o e) loop)
theorem comp_clos {pins : List (Addr × Obj)} {σ : St} {H : Hp} {s : Shared} (S : CompScope own X.N X.env.scope scope) (I : Inv X pins σ H s) : closureFor scope X.env = pure (clOf X.env.cells scope.names []) :=
  closureFor_eq fun y hy hk => I.ok.has y.1 (by rcases S.up y hy hk with z | z; exact .inl z; exact .inr z)
theorem Inv.letgo {pins : List (Addr × Obj)} {σ : St} {H' : Hp} {s' : Shared} {h' : Heap} {C : Addr} {z : Nat} (I : Inv X pins σ H' s') (hC : H' C = none) (h0 : X.s₀.heap.objs.size <= z) (hz : z <= C) (hL : X.env.locals < z) (hcl : ∀ x c, X.env.cells.lookup x = some c -> c < z) (hp : ∀ p ∈ X.pn ++ pins, p.1 < z) (hs : Heap.SameBut C s'.heap h') : Inv X pins σ H' { s' with heap := h' } :=
  I.turned (t' := s'.toks) (it := C) (fun b o hb e => hs.extBut b o hb e) hC (Nat.ne_of_gt (Nat.lt_of_lt_of_le hL hz)) (.inr (Nat.le_trans h0 hz)) (fun x c e => Nat.ne_of_lt (Nat.lt_of_lt_of_le (hcl x c e) hz)) fun p hq => Nat.ne_of_lt (Nat.lt_of_lt_of_le (hp p hq) hz)
theorem pe_comp {N0 P0 : List Str} {sc : Scope} (S0 : FnScope N0 P0 sc) (hc : X.calm = true) (S1 : CompScope own N0 sc scope) (hi : PI X tg iter wi)
    (hg : ∀ C fp s H, (maskN own N0).Nodup -> PG (cxComp X own scope C fp s H) tg g) (ht : ∀ C fp s H, PTs (cxComp X own scope C fp s H) ifs tt) (he : ∀ C fp s H, PE (cxComp X own scope C fp s H) elt te)
    (hs : ∀ x, foldedSetIterable iter X.env x = pure x := by intro _; rfl) (hN0 : X.N = N0 := by rfl) (hsc : X.env.scope = sc := by rfl) : PE X (.ListComp elt [⟨tg, iter, ifs, 0⟩] scope pos) (tCompB own.length wi g tt te) := by
  intro pins s σ H Q I h
  subst hN0 hsc
  have S := S1
  replace hg := fun C fp s H => hg C fp s H S1.nd
  rw [eval_ListComp]
  refine wpAny_comprehension_free (use := none) rfl hs (comp_clos S I) S.kind S.loc (thn (hi pins s σ H _ I h) fun xv s₁ h₁ => thn h₁ fun itv s₂ h₂ => ?_)
  obtain ⟨it, fp, tn, J, H2, rfl, I2, T, st2, f2, q2⟩ := h₂
  refine comp_block (Q := Q) hc S hg ht he I2 T st2 f2 q2 ?_
  intro D C s' H' m I' hm hC hCle q
  refine ⟨m, hm, fun h' hs' => ⟨.ref D, H', ?_, rfl, q⟩⟩
  exact I'.letgo hC I2.sz hCle I2.lt (fun x c e => let ⟨v, z⟩ := I2.cell x c e; z.lt) (fun p hp => Heap.lt_size (I2.pin p hp).1) hs'
theorem ps_comp {i : Nat} {x : Str} {pos' spos : Pos} {N0 P0 : List Str} {sc : Scope} (S0 : FnScope N0 P0 sc) (hc : X.calm = true) (S1 : CompScope own N0 sc scope) (hi : PI X tg iter wi)
    (hg : ∀ C fp s H, (maskN own N0).Nodup -> PG (cxComp X own scope C fp s H) tg g) (ht : ∀ C fp s H, PTs (cxComp X own scope C fp s H) ifs tt) (he : ∀ C fp s H, PE (cxComp X own scope C fp s H) elt te)
    (hN : X.N.Nodup) (hiN : X.N[i]? = some x) (hx : Loc X.env.scope x)
    (hsw : swapsWith (.ListComp elt [⟨tg, iter, ifs, 0⟩] scope pos) (some (.Name x pos')) spos.line X.env = pure true)
    (hs : ∀ x, foldedSetIterable iter X.env x = pure x := by intro _; rfl) (hf : X.fn x = true \/ X.env.scope.names.lookup x = some .local := by first | exact .inl rfl | exact .inr rfl | assumption) (hN0 : X.N = N0 := by rfl) (hsc : X.env.scope = sc := by rfl) :
    PS X (.Assign [.Name x pos'] (.ListComp elt [⟨tg, iter, ifs, 0⟩] scope pos) spos) (tAsg (tCompB own.length wi g tt te) (gName i)) := by
  intro pins s σ H D I h
  subst hN0 hsc
  have S := S1
  replace hg := fun C fp s H => hg C fp s H S1.nd
  rw [exec_Assign_Name_used _ _ _ _ hsw]
  refine wpAny_bind (wpAny_standAt (wpAny_bind ?_))
  show wpAny _ X.A (do let _ <- comprehension (.ListComp elt [⟨tg, iter, ifs, 0⟩] scope pos) scope X.env _ (newList []) false (eval iter X.env) (some (assign (.Name x pos') X.env))) _ _ s
  refine wpAny_bind (wpAny_mono (wpAny_comprehension_free (use := some (assign (.Name x pos') X.env)) (Q := fun _ s' => SP X pins D .next s') rfl hs (comp_clos S I) S.kind S.loc
    (thn (hi pins s σ H _ I h) fun xv s₁ h₁ => thn h₁ fun itv s₂ h₂ => ?_)) (fun _ s' hq => wpAny_pure (wpAny_pure hq)) fun _ _ e => e)
  obtain ⟨it, fp, tn, J, H2, rfl, I2, T, st2, f2, q2⟩ := h₂
  refine comp_block (Q := fun v H => D.nx (σ.set i (some v)) H) hc S hg ht he I2 T st2 f2 q2 ?_
  intro Dl C s' H' m I' hm hC hCle q
  have hL := I2.lt
  have hcl : ∀ x c, X.env.cells.lookup x = some c -> c < s₂.heap.objs.size := fun x c e => let ⟨v, z⟩ := I2.cell x c e; z.lt
  show wpAny _ X.A (assign (.Name x pos') X.env (.ref Dl)) _ _ _
  refine wpAny_assign_Name (store_ok2 I' hN hiN hx (v := .ref Dl) rfl (fun s'' I'' ⟨a, sb, ha⟩ => ?_) hf)
  have ne : C ≠ a := by
    rcases ha with rfl | ha
    . exact Nat.ne_of_gt (Nat.lt_of_lt_of_le hL hCle)
    . exact Nat.ne_of_gt (Nat.lt_of_lt_of_le (hcl _ _ ha) hCle)
  refine ⟨m, hm.sameBut sb ne, fun h' hs' => ⟨_, H', ?_, q⟩⟩
  exact I''.letgo hC I2.sz hCle hL hcl (fun p hp => Heap.lt_size (I2.pin p hp).1) hs'
end
end L2
end
section
namespace L2
open PySem PySem.Spec PyProof.Rows
open PySem.W (Dat kqdP kqdPs kqdOk)
section
variable {X : Cx}
theorem op_mulB : OpR X (binaryOp .Mult) (rI IntMulOk fun i j => .int (i * j)) := opI fun _ _ _ _ _ _ _ hc q => mul_int q hc
noncomputable def CDivB (i j : Int) : Prop := j ≠ 0 /\ j.natAbs.log2 < 9000
theorem op_fdivB : OpR X (binaryOp .FloorDiv) (rI CDivB fun i j => .int (i.fdiv j)) := opI fun _ _ _ _ _ _ _ hc q => floordiv_int hc.1 q (.inl (PyProof.noPylong_of_log2 hc.2))
end
mutual
inductive Is (K : PySem.W.Frag) (H : Hp) : V -> Dat -> Prop
  | none : Is K H .non .none
  | bool (b : Bool) : Is K H (.bl b) (.bool b)
  | int (i : Int) : Is K H (.int i) (.int i)
  | str (x : Str) : Is K H (.str x) (.str x)
  | tup {a : Addr} {xs : List V} {ds : List Dat} : SqT K H a xs -> Iss K H xs ds -> Is K H (.ref a) (.tuple ds)
  | lst {a : Addr} {xs : List V} {ds : List Dat} : SqL K H a xs -> Iss K H xs ds -> Is K H (.ref a) (.list ds)
inductive Iss (K : PySem.W.Frag) (H : Hp) : List V -> List Dat -> Prop
  | nil : Iss K H [] []
  | cons {x : V} {d : Dat} {xs : List V} {ds : List Dat} : Is K H x d -> Iss K H xs ds -> Iss K H (x :: xs) (d :: ds)
end
theorem Same.tup {K : PySem.W.Frag} {H H' : Hp} {a : Addr} {xs : List V} (e : Same H H') (h : SqT K H a xs) : SqT K H' a xs := by
  rcases h with (h | ⟨o, h⟩) | h
  . exact .inl (.inl (e _ _ h))
  . exact .inl (.inr ⟨o, e _ _ h⟩)
  . exact .inr h
theorem Same.new {H : Hp} {p : Addr} (h : H p = Option.none) (o : HO) : Same H (upd H p o) := fun b u q => by rw [upd_ne (ne_of_none q h)]; exact q
section
variable {K : PySem.W.Frag} {H H' : Hp}
end
section
variable {X : Cx} {pins : List (Addr × Obj)} {σ : St} {H : Hp} {s : Shared}
mutual
theorem Is.reads (I : Inv X pins σ H s) : ∀ {v : V} {d : Dat} {u : Value}, Is X.K H v d -> RelV v u -> ∃ as, Reads s.heap u (kqdP d) as
  | _, _, _, .none, r => by cases (show _ = Value.none from r); exact ⟨_, .none⟩
  | _, _, _, .bool b, r => by cases (show _ = Value.bool b from r); exact ⟨_, .bool b⟩
  | _, _, _, .int i, r => by obtain ⟨t, rfl⟩ := r; exact ⟨_, .int i t⟩
  | _, _, _, .str x, r => by obtain ⟨t, rfl⟩ := r; exact ⟨_, .str x t⟩
  | _, _, _, .tup (a := a) h q, r => by
    cases (show _ = Value.ref a from r)
    obtain ⟨its, rv, ⟨o, e, c, n, d⟩, _⟩ := I.tuple h
    obtain ⟨as, z⟩ := Iss.reads I q rv
    rw [kqdP]
    exact ⟨as, .tuple e c d (by simpa using z)⟩
  | _, _, _, .lst (a := a) h q, r => by
    cases (show _ = Value.ref a from r)
    obtain ⟨its, rv, ⟨o, n, e, c, _, d⟩, _⟩ := I.list h
    obtain ⟨as, z⟩ := Iss.reads I q rv
    rw [kqdP]
    exact ⟨_, .list e c d (by simpa using z)⟩
theorem Iss.reads (I : Inv X pins σ H s) : ∀ {v : List V} {d : List Dat} {u : List Value}, Iss X.K H v d -> Vals v u -> ∃ as, ReadsAll s.heap u (kqdPs d) as
  | _, _, _, .nil, .nil => ⟨_, .nil⟩
  | _, _, _, .cons a r, .cons b t => by
    obtain ⟨as, p⟩ := Is.reads I a b
    obtain ⟨bs, q⟩ := Iss.reads I r t
    rw [kqdPs]
    exact ⟨_, .cons p q⟩
end
end
open Classical in
noncomputable def deq (d e : Dat) : Bool := decide (d = e)
open Classical in
theorem deq_self (d : Dat) : deq d d = true := decide_eq_true rfl
open Classical in
theorem deq_true {d e : Dat} (h : d = e) : deq d e = true := decide_eq_true h
open Classical in
theorem deq_ne {d e : Dat} (h : d ≠ e) : deq d e = false := decide_eq_false h
noncomputable def rEqD (K : PySem.W.Frag) (n : Bool) : R2 := fun x y H Q => ∃ d e, Is K H x d /\ Is K H y e /\ kqdOk 9 d = true /\ kqdOk 9 e = true /\ Q (.bl (if n then !deq d e else deq d e)) H
theorem eqv_deq {d e : Dat} (h1 : kqdOk 9 d = true) (h2 : kqdOk 9 e = true) : PyData.eqv (kqdP d) (kqdP e) = deq d e := by
  have q := PySem.W.kqd_eqv 9 d e 9 h1 h2
  by_cases z : d = e
  . rw [deq_true z]; exact q.mpr z
  . rw [deq_ne z]; exact Bool.eq_false_iff.mpr fun x => z (q.mp x)
theorem shaped9 {d : Dat} (h : kqdOk 9 d = true) : SeqAt.shaped (kqdP d) = true := by
  have l := PySem.W.kqd_lay 9 d h
  unfold SeqAt.shaped
  rw [l.1, Bool.true_and]
  exact decide_eq_true (Nat.le_trans l.2 (by decide))
section
variable {X : Cx}
theorem op_eqD (hu : X.A.units + 64 < cLine) : OpR X (compareOp .Eq) (rEqD X.K false) := by
  intro pins s σ H x y v u Q I rx ry h
  obtain ⟨d, e, hd, he, o1, o2, q⟩ := h
  obtain ⟨as, ra⟩ := hd.reads I rx
  obtain ⟨bs, rb⟩ := he.reads I ry
  refine PyProof.Rows.eq_dataH ra rb (shaped9 o1) (shaped9 o2) hu ?_
  rw [eqv_deq o1 o2]
  exact ⟨.bl _, H, I, rfl, q⟩
theorem op_neD (hu : X.A.units + 64 < cLine) : OpR X (compareOp .NotEq) (rEqD X.K true) := by
  intro pins s σ H x y v u Q I rx ry h
  obtain ⟨d, e, hd, he, o1, o2, q⟩ := h
  obtain ⟨as, ra⟩ := hd.reads I rx
  obtain ⟨bs, rb⟩ := he.reads I ry
  refine PyProof.Rows.ne_dataH ra rb (shaped9 o1) (shaped9 o2) hu ?_
  rw [eqv_deq o1 o2]
  exact ⟨.bl _, H, I, rfl, q⟩
theorem call_sumL (hc : X.calm = true) : CallR X (.builtin "sum") (fun xs H Q => ∃ (a : Addr) (ns : List Int), xs = [.ref a] /\ SqL X.K H a (ns.map V.int) /\ Q (.int ns.sum) H) := by
  intro pins s σ H xs us Q I r h
  obtain ⟨a, ns, rfl, hl, q⟩ := h
  cases r with
  | cons r1 r2 =>
    cases r2
    cases (show _ = Value.ref a from r1)
    obtain ⟨its, rv, pl, _⟩ := I.list hl
    obtain ⟨m, F⟩ := I.fr
    have hi : IntsAre its ns := intsAre_of rv
    obtain ⟨xs, hxs⟩ := (IntsAre.allInts hi).items
    have e : numsOf its = ns := hi.numsOf
    refine sum_intListG (xs := xs) (I.ok.hd hc) (by rw [<- hxs]; exact pl.isList) fun h' tk t' hk => ?_
    refine ⟨.int ns.sum, H, I.kept (t' := tk) hk, ⟨t', ?_⟩, q⟩
    have e2 : numsOf its = (xs.map Prod.fst).toList := by
      have := nums_intItems (xs := xs)
      rw [<- hxs] at this
      simpa using this
    rw [preSum_eq, List.take_of_length_le (by simp)]
    rw [<- e, e2, Array.toList_map]
end
end L2
end
section
namespace L2
open PySem PySem.Spec PyProof.Rows
section
variable {prog : Program} {w : World} {A : Around} {E : Value -> Shared -> Prop} {s : Shared}
theorem tupNext {it t : Addr} {i : Nat} {its : Array Value} {x : Value} {Q : Value -> Shared -> Prop} (hit : s.heap.IsTupleIter it t i) (ht : s.heap.IsTuple t its) (hx : its[i]? = some x)
    (k : ∀ g, g.IsTupleIter it t (i + 1) -> Heap.SameBut it s.heap g -> Q x { s with heap := g }) : wpAny (model prog w) A (Builtin.SmallTypes.nextOf (.ref it)) Q E s := by
  obtain ⟨o, g1, g2, g3⟩ := id hit
  obtain ⟨p, q1, _, n, q2⟩ := ht
  unfold Builtin.SmallTypes.nextOf
  refine wpAny_bind (wpAny_callSpecial?_slot (name := Str.ofString "__next__") hit.typeIs F.slot_tuple_iterator_next (wpAny_call_entry F.slot_tuple_iterator_next hit.typeIs F.entry_tuple_iterator_next ?_ (F.args_tuple_iterator_next_1 _)))
  show wpAny _ _ (field (.ref it) 0 >>= _) _ _ s; refine wpAny_bind (wpAny_field g1 g3 (x := .ref t) rfl ?_); show wpAny _ _ (if (Value.ref t == Value.none) = true then _ else _) _ _ s
  rw [if_neg (show ¬ ((Value.ref t == Value.none) = true) from Bool.false_ne_true)]; show wpAny _ _ (field (.ref it) 1 >>= _) _ _ s; refine wpAny_bind (wpAny_field g1 g3 (x := .int i 0) rfl ?_)
  show wpAny _ _ (seqItems? (.ref t) >>= _) _ _ s; refine wpAny_bind (wpAny_seqItems q1 q2 ?_); simp only [Int.toNat_natCast, hx]
  refine wpAny_bind (wpAny_setField g1 g3 (by simp) (wpAny_pure ⟨x, rfl, wpAny_pure (k _ ⟨_, Heap.get?_update_self _ g1 (Obj.isFreed_of_fields (Obj.data_mapFields g3 _)), (Obj.cls_mapFields ..).trans g2, ?_⟩ (Heap.SameBut.update ..))⟩))
  rw [Obj.data_mapFields g3]; simp [rawInt]
theorem tupEnd {it t : Addr} {i : Nat} {its : Array Value} {Q : Value -> Shared -> Prop} (hh : A.handled = none) (hit : s.heap.IsTupleIter it t i) (ht : s.heap.IsTuple t its) (hx : its[i]? = none)
    (k : ∀ g e, Heap.ExtBut it s.heap g -> (∃ o, g.get? e = some o /\ o.cls = .type "StopIteration") -> E (.ref e) { s with heap := g }) : wpAny (model prog w) A (Builtin.SmallTypes.nextOf (.ref it)) Q E s := by
  obtain ⟨o, g1, g2, g3⟩ := id hit
  obtain ⟨p, q1, _, n, q2⟩ := ht
  unfold Builtin.SmallTypes.nextOf
  refine wpAny_bind (wpAny_callSpecial?_slot (name := Str.ofString "__next__") hit.typeIs F.slot_tuple_iterator_next (wpAny_call_entry F.slot_tuple_iterator_next hit.typeIs F.entry_tuple_iterator_next ?_ (F.args_tuple_iterator_next_1 _)))
  show wpAny _ _ (field (.ref it) 0 >>= _) _ _ s; refine wpAny_bind (wpAny_field g1 g3 (x := .ref t) rfl ?_); show wpAny _ _ (if (Value.ref t == Value.none) = true then _ else _) _ _ s
  rw [if_neg (show ¬ ((Value.ref t == Value.none) = true) from Bool.false_ne_true)]; show wpAny _ _ (field (.ref it) 1 >>= _) _ _ s; refine wpAny_bind (wpAny_field g1 g3 (x := .int i 0) rfl ?_)
  show wpAny _ _ (seqItems? (.ref t) >>= _) _ _ s; refine wpAny_bind (wpAny_seqItems q1 q2 ?_); simp only [Int.toNat_natCast, hx]
  refine wpAny_bind (wpAny_rule (wpAny_bind (wpAny_setField g1 g3 (by simp) ?_))); show wpAny _ _ (newExc (.type "StopIteration") [] >>= _) _ _ _
  refine wpAny_bind ?_; simp only [newExc, newTuple]; refine wpAny_bind (wpAny_newObj_type ?_ (by size_fits))
  refine wpAny_bind (m := firstArgMember _ _) (wpAny_of_eq (a := Value.none) (by first | rfl | (simp only [firstArgMember]; rfl)) ?_); refine wpAny_newObj_type ?_ (by size_fits)
  simp only [raiseNew]; refine wpAny_bind (wpAny_handled ?_); first | rw [show A.in1.handled = none from hh] | rw [hh]
  refine wpAny_bind (wpAny_pure (wpAny_throw ?_)); exact k _ _ (((Heap.SameBut.update ..).extBut.push _).push _) ⟨_, Heap.get?_push_size _ rfl, rfl⟩
structure ZipAt (h : Heap) (z a b i1 i2 l1 l2 : Addr) (xs ys : Array Value) (k : Nat) (f : Value) : Prop where
  z : IsZip h z a b f
  a : IsPair h a (.ref i1) (.ref i2)
  b : ∃ u v, IsPair h b u v
  i1 : h.IsTupleIter i1 l1 k
  i2 : h.IsTupleIter i2 l2 k
  l1 : h.IsTuple l1 xs
  l2 : h.IsTuple l2 ys
theorem zipNext {z a b i1 i2 l1 l2 : Addr} {k : Nat} {xs ys : Array Value} {x y : Value} {Q : Option Value -> Shared -> Prop} (D : ZipApart z a b i1 i2 l1 l2) (Z : ZipAt s.heap z a b i1 i2 l1 l2 xs ys k .none) (hx : xs[k]? = some x) (hy : ys[k]? = some y)
    (kq : ∀ g, ZipAt g z a b i1 i2 l1 l2 xs ys (k + 1) (rawInt s.heap.objs.size) -> IsPair g s.heap.objs.size x y -> (∀ c o, c ≠ z -> c ≠ b -> c ≠ i1 -> c ≠ i2 -> s.heap.get? c = some o -> g.get? c = some o) -> Q (some (.ref s.heap.objs.size)) { s with heap := g }) :
    wpAny (model prog w) A (pyNext (.ref z)) Q E s := by
  obtain ⟨hz, ha, ⟨u, v, hb⟩, h1, h2, t1, t2⟩ := Z
  have hT : s.TypeIs (.ref z) "zip" := ⟨_, hz, rfl⟩
  unfold pyNext
  refine wpAny_bind (wpAny_attempt (wpAny_callSpecial?_slot (name := Str.ofString "__next__") hT F.slot_zip_next (wpAny_call_entry F.slot_zip_next hT F.entry_zip_next ?_ (F.args_zip_next_1 _))))
  show wpAny _ _ (field (.ref z) 2 >>= _) _ _ _; refine wpAny_bind (wpAny_field hz rfl (x := .bool false) rfl ?_); show wpAny _ _ (field (.ref z) 3 >>= _) _ _ _
  refine wpAny_bind (wpAny_field hz rfl (x := .ref a) rfl ?_); refine wpAny_bind (wpAny_seqItems ha rfl ?_); show wpAny _ _ (Builtin.SmallTypes.ownedTupleIsFree (.ref z) >>= _) _ _ _
  refine wpAny_bind ?_; unfold Builtin.SmallTypes.ownedTupleIsFree; refine wpAny_bind (wpAny_field hz rfl (x := .none) rfl (wpAny_pure ?_))
  simp only [if_true]; refine wpAny_bind (wpAny_rule ?_); refine wpAny_bind (wpAny_field hz rfl (x := .ref b) rfl ?_)
  refine wpAny_bind (wpAny_setField_rec hz (by simp) fun g₁ e₁ s₁ => ?_)
  replace e₁ : IsZip g₁ z a b .ellipsis := e₁
  refine wpAny_bind ?_; simp only [List.zipIdx_cons, List.zipIdx_nil, List.forIn_cons, List.forIn_nil]
  refine wpAny_bind (wpAny_bind (wpAny_onRaise ?_)); show wpAny _ _ (Builtin.SmallTypes.nextOf (.ref i1) >>= _) _ _ _
  refine wpAny_bind (tupNext (h1.extBut s₁.extBut D.i1z) (t1.extBut s₁.extBut D.l1z) hx fun g₂ f₂ s₂ => wpAny_pure ?_)
  have b₂ : IsPair g₂ b u v := s₂.extBut _ _ D.TOi1 (s₁.extBut _ _ D.TOz hb)
  refine wpAny_bind (wpAny_seqItems b₂ rfl ?_); refine wpAny_bind (wpAny_updateSeq_pair b₂ fun g₃ b₃ s₃ => ?_)
  replace b₃ : IsPair g₃ b x v := b₃
  refine wpAny_bind (wpAny_letGo (wpAny_pure ?_)); refine wpAny_bind (wpAny_bind (wpAny_onRaise ?_)); show wpAny _ _ (Builtin.SmallTypes.nextOf (.ref i2) >>= _) _ _ _
  refine wpAny_bind (tupNext (((h2.extBut s₁.extBut D.i2z).extBut s₂.extBut D.i12.symm).extBut s₃.extBut D.TOi2.symm) (((t2.extBut s₁.extBut D.l2z).extBut s₂.extBut D.l2i1).extBut s₃.extBut D.l2TO) hy fun g₄ f₄ s₄ => wpAny_pure ?_)
  have b₄ : IsPair g₄ b x v := s₄.extBut _ _ D.TOi2 b₃
  refine wpAny_bind (wpAny_seqItems b₄ rfl ?_); refine wpAny_bind (wpAny_updateSeq_pair b₄ fun g₅ b₅ s₅ => ?_)
  replace b₅ : IsPair g₅ b x y := b₅
  refine wpAny_bind (wpAny_letGo (wpAny_pure (wpAny_pure ?_))); refine wpAny_bind (wpAny_seqItems b₅ rfl ?_); refine wpAny_bind (wpAny_newTuple ?_)
  have sz : g₅.objs.size = s.heap.objs.size := by rw [s₅.1, s₄.1, s₃.1, s₂.1, s₁.1]
  have e₅ : IsZip g₅ z a b .ellipsis := s₅.extBut _ _ D.TOz.symm (s₄.extBut _ _ D.i2z.symm (s₃.extBut _ _ D.TOz.symm (s₂.extBut _ _ D.i1z.symm e₁)))
  have k₅ : ∀ c o, c ≠ z -> c ≠ b -> c ≠ i1 -> c ≠ i2 -> s.heap.get? c = some o -> g₅.get? c = some o := fun c o c1 c2 c3 c4 e => s₅.extBut _ _ c2 (s₄.extBut _ _ c4 (s₃.extBut _ _ c2 (s₂.extBut _ _ c3 (s₁.extBut _ _ c1 e))))
  have m₁ : g₅.IsTupleIter i1 l1 (k + 1) := ((f₂.extBut s₃.extBut D.TOi1.symm).extBut s₄.extBut D.i12).extBut s₅.extBut D.TOi1.symm
  have m₂ : g₅.IsTupleIter i2 l2 (k + 1) := f₄.extBut s₅.extBut D.TOi2.symm
  have lz : z < g₅.objs.size := Heap.lt_size e₅
  show wpAny _ _ (Builtin.SmallTypes.ownedTupleHandOut (.ref z) (.ref g₅.objs.size) >>= _) _ _ _; refine wpAny_bind ?_; unfold Builtin.SmallTypes.ownedTupleHandOut
  have e₆ : IsZip (g₅.push { cls := .type "tuple", data := .seq #[x, y] }) z a b .ellipsis := Heap.get?_push_of_some _ e₅
  refine wpAny_bind (wpAny_setField_rec e₆ (by simp) fun g₇ e₇ s₇ => ?_)
  replace e₇ : IsZip g₇ z a b (rawInt g₅.objs.size) := e₇
  refine wpAny_setField_rec e₇ (by simp) fun g₈ e₈ s₈ => ?_
  replace e₈ : IsZip g₈ z a b (rawInt g₅.objs.size) := e₈
  have up : ∀ c o, c ≠ z -> g₅.get? c = some o -> g₈.get? c = some o := fun c o c1 e => s₈.extBut _ _ c1 (s₇.extBut _ _ c1 (Heap.get?_push_of_some _ e))
  have p₈ : IsPair g₈ g₅.objs.size x y := s₈.extBut _ _ (Nat.ne_of_gt lz) (s₇.extBut _ _ (Nat.ne_of_gt lz) (Heap.get?_push_size _ rfl))
  rw [sz] at e₈ p₈
  refine wpAny_pure ⟨_, rfl, wpAny_pure ?_⟩
  show Q (some (.ref g₅.objs.size)) _; rw [sz]
  have all : ∀ c o, c ≠ z -> c ≠ b -> c ≠ i1 -> c ≠ i2 -> s.heap.get? c = some o -> g₈.get? c = some o := fun c o c1 c2 c3 c4 e => up c o c1 (k₅ c o c1 c2 c3 c4 e)
  exact kq g₈ ⟨e₈, all _ _ D.TIz D.TITO D.TIi1 D.TIi2 ha, ⟨_, _, up _ _ D.TOz b₅⟩, m₁.at fun o e => up _ o D.i1z e, m₂.at fun o e => up _ o D.i2z e, t1.at fun o e => all _ o D.l1z D.l1TO D.l1i1 D.l1i2 e, t2.at fun o e => all _ o D.l2z D.l2TO D.l2i1 D.l2i2 e⟩ p₈ all
theorem zipEnd {z a b i1 i2 l1 l2 : Addr} {k : Nat} {xs ys : Array Value} {Q : Option Value -> Shared -> Prop} (hh : A.handled = none) (D : ZipApart z a b i1 i2 l1 l2) (Z : ZipAt s.heap z a b i1 i2 l1 l2 xs ys k .none) (hx : xs[k]? = none)
    (kq : ∀ g, (∀ c o, c ≠ z -> c ≠ b -> c ≠ i1 -> c ≠ i2 -> s.heap.get? c = some o -> g.get? c = some o) -> Q none { s with heap := g }) : wpAny (model prog w) A (pyNext (.ref z)) Q E s := by
  obtain ⟨hz, ha, ⟨u, v, hb⟩, h1, h2, t1, t2⟩ := Z
  have hT : s.TypeIs (.ref z) "zip" := ⟨_, hz, rfl⟩
  unfold pyNext
  refine wpAny_bind (wpAny_attempt (wpAny_callSpecial?_slot (name := Str.ofString "__next__") hT F.slot_zip_next (wpAny_call_entry F.slot_zip_next hT F.entry_zip_next ?_ (F.args_zip_next_1 _))))
  show wpAny _ _ (field (.ref z) 2 >>= _) _ _ _; refine wpAny_bind (wpAny_field hz rfl (x := .bool false) rfl ?_); show wpAny _ _ (field (.ref z) 3 >>= _) _ _ _
  refine wpAny_bind (wpAny_field hz rfl (x := .ref a) rfl ?_); refine wpAny_bind (wpAny_seqItems ha rfl ?_); show wpAny _ _ (Builtin.SmallTypes.ownedTupleIsFree (.ref z) >>= _) _ _ _
  refine wpAny_bind ?_; unfold Builtin.SmallTypes.ownedTupleIsFree; refine wpAny_bind (wpAny_field hz rfl (x := .none) rfl (wpAny_pure ?_))
  simp only [if_true]; refine wpAny_bind (wpAny_rule ?_); refine wpAny_bind (wpAny_field hz rfl (x := .ref b) rfl ?_)
  refine wpAny_bind (wpAny_setField_rec hz (by simp) fun g₁ e₁ s₁ => ?_)
  replace e₁ : IsZip g₁ z a b .ellipsis := e₁
  refine wpAny_bind ?_; simp only [List.zipIdx_cons, List.zipIdx_nil, List.forIn_cons, List.forIn_nil]
  refine wpAny_bind (wpAny_bind (wpAny_onRaise ?_)); show wpAny _ _ (Builtin.SmallTypes.nextOf (.ref i1) >>= _) _ _ _
  refine wpAny_bind (tupEnd hh (h1.extBut s₁.extBut D.i1z) (t1.extBut s₁.extBut D.l1z) hx fun g₂ e s₂ he => ?_)
  obtain ⟨oe, he1, he2⟩ := he
  have e₂ : IsZip g₂ z a b .ellipsis := s₂ _ _ D.i1z.symm e₁
  have hez : e ≠ z := fun x => by subst x; rw [e₂] at he1; cases he1; simp at he2
  refine wpAny_setField_rec e₂ (by simp) fun g₃ _ s₃ => ?_
  refine wpAny_bind (wpAny_isInstance (T := "StopIteration") (b := true) ⟨oe, s₃.extBut _ _ hez he1, he2⟩ isSubtype_stop ?_)
  exact wpAny_pure (kq _ fun c o c1 _ c3 _ x => s₃.extBut _ _ c1 (s₂ _ _ c3 (s₁.extBut _ _ c1 x)))
noncomputable abbrev zh (h : Heap) (l : Addr) : Heap := h.push { cls := .type "tuple_iterator", data := .fields #[.ref l, .int 0 0] }
theorem zipNewMeets (l1 l2 : Addr) (xs ys : Array Value) :
    Meets (Builtin.«zip.__new__» ⟨[.type "zip", .ref l1, .ref l2], []⟩) (fun _ R s => s.heap.IsTuple l1 xs /\ s.heap.IsTuple l2 ys /\ ∀ g, g = (((zh (zh s.heap l1) l2).push { cls := .type "tuple", data := .seq #[.ref s.heap.objs.size, .ref (zh s.heap l1).objs.size] }).push { cls := .type "tuple", data := .seq #[.none, .none] }) ->
      R (.ok (.ret (.ref g.objs.size))) { s with heap := g.push { cls := .type "zip", data := .fields #[.none, .bool false, .bool false, .ref (zh (zh s.heap l1) l2).objs.size, .ref ((zh (zh s.heap l1) l2).push { cls := .type "tuple", data := .seq #[.ref s.heap.objs.size, .ref (zh s.heap l1).objs.size] }).objs.size] } }) :=
  .of_wp fun prog w A R s h => by
    obtain ⟨hp, g, d, tk, os⟩ := s; obtain ⟨q1, q2, h⟩ := h
    have hsub := sub_zip
    have L1 : Heap.IsTuple (Shared.heap ⟨hp, g, d, tk, os⟩) l1 xs := q1
    have L2 : Heap.IsTuple (Shared.heap ⟨zh hp l1, g, d, tk, os⟩) l2 ys := q2.at fun o e => Heap.get?_push_of_some _ e
    wp_walk using wpAny_pyIter_tuple L1, wpAny_pyIter_tuple L2
    exact ⟨_, rfl, h _ rfl⟩
theorem callZip {l1 l2 : Addr} {xs ys : Array Value} {Q : Value -> Shared -> Prop} (h1 : s.heap.IsTuple l1 xs) (h2 : s.heap.IsTuple l2 ys)
    (k : ∀ g, ZipAt g (s.heap.objs.size + 4) (s.heap.objs.size + 2) (s.heap.objs.size + 3) s.heap.objs.size (s.heap.objs.size + 1) l1 l2 xs ys 0 .none -> (∀ c o, s.heap.get? c = some o -> g.get? c = some o) -> Q (.ref (s.heap.objs.size + 4)) { s with heap := g }) :
    wpAny (model prog w) A (call (.type "zip") [.ref l1, .ref l2]) Q E s := by
  refine callType_new F.called_zip (by decide) (F.typeCall_zip_2 _ _) (F.newCall_zip_2 _ _) (fun obj => F.args_object_init_3 obj _ _) F.entry_zip_new (zipNewMeets l1 l2 xs ys) ⟨h1, h2, fun g hg => ?_⟩
  generalize e1 : zh s.heap l1 = a1 at *
  generalize e2 : zh a1 l2 = a2 at *
  generalize e3 : a2.push { cls := .type "tuple", data := .seq #[.ref s.heap.objs.size, .ref a1.objs.size] } = a3 at *
  have n1 : a1.objs.size = s.heap.objs.size + 1 := by rw [<- e1]; exact Heap.size_push ..
  have n2 : a2.objs.size = s.heap.objs.size + 2 := by rw [<- e2, Heap.size_push, n1]
  have n3 : a3.objs.size = s.heap.objs.size + 3 := by rw [<- e3, Heap.size_push, n2]
  have n4 : g.objs.size = s.heap.objs.size + 4 := by rw [hg, Heap.size_push, n3]
  have up1 : ∀ c o, s.heap.get? c = some o -> a1.get? c = some o := fun c o x => e1 ▸ Heap.get?_push_of_some _ x
  have up2 : ∀ c o, a1.get? c = some o -> a2.get? c = some o := fun c o x => e2 ▸ Heap.get?_push_of_some _ x
  have up3 : ∀ c o, a2.get? c = some o -> a3.get? c = some o := fun c o x => e3 ▸ Heap.get?_push_of_some _ x
  have up4 : ∀ c o, a3.get? c = some o -> g.get? c = some o := fun c o x => hg ▸ Heap.get?_push_of_some _ x
  have x1 : a1.get? s.heap.objs.size = some { cls := .type "tuple_iterator", data := .fields #[.ref l1, .int 0 0] } := e1 ▸ Heap.get?_push_size _ rfl
  have x2 : a2.get? (s.heap.objs.size + 1) = some { cls := .type "tuple_iterator", data := .fields #[.ref l2, .int 0 0] } := by rw [<- n1]; exact e2 ▸ Heap.get?_push_size _ rfl
  have x3 : a3.get? (s.heap.objs.size + 2) = some { cls := .type "tuple", data := .seq #[.ref s.heap.objs.size, .ref a1.objs.size] } := by rw [<- n2]; exact e3 ▸ Heap.get?_push_size _ rfl
  have x4 : g.get? (s.heap.objs.size + 3) = some { cls := .type "tuple", data := .seq #[.none, .none] } := by rw [<- n3]; exact hg ▸ Heap.get?_push_size _ rfl
  have x5 : (g.push { cls := .type "zip", data := .fields #[.none, .bool false, .bool false, .ref a2.objs.size, .ref a3.objs.size] }).get? (s.heap.objs.size + 4) = some { cls := .type "zip", data := .fields #[.none, .bool false, .bool false, .ref a2.objs.size, .ref a3.objs.size] } := by rw [<- n4]; exact Heap.get?_push_size _ rfl
  rw [n2, n3] at x5
  rw [n1] at x3
  show _ /\ _
  rw [n4, n2, n3]
  have all : ∀ c o, s.heap.get? c = some o -> (g.push { cls := .type "zip", data := .fields #[.none, .bool false, .bool false, .ref (s.heap.objs.size + 2), .ref (s.heap.objs.size + 3)] }).get? c = some o := fun c o x => Heap.get?_push_of_some _ (up4 _ _ (up3 _ _ (up2 _ _ (up1 _ _ x))))
  refine ⟨⟨_, x5, rfl⟩, k _ ⟨x5, Heap.get?_push_of_some _ (up4 _ _ x3), ⟨_, _, Heap.get?_push_of_some _ x4⟩, ⟨_, Heap.get?_push_of_some _ (up4 _ _ (up3 _ _ (up2 _ _ x1))), rfl, rfl⟩, ⟨_, Heap.get?_push_of_some _ (up4 _ _ (up3 _ _ x2)), rfl, rfl⟩, h1.at fun o e => all _ o e, h2.at fun o e => all _ o e⟩ all⟩
end
end L2
end
section
namespace L2
open PySem PySem.Spec PyProof.Rows
noncomputable def Itz (K : PySem.W.Frag) (l1 l2 : Addr) : It :=
  ⟨fun i H => ∃ xs ys x y, SqT K H l1 xs /\ SqT K H l2 ys /\ xs[i]? = some x /\ ys[i]? = some y,
   fun i H v H' => ∃ p, H p = none /\ v = .ref p /\ ∀ xs ys x y, SqT K H l1 xs -> SqT K H l2 ys -> xs[i]? = some x -> ys[i]? = some y -> H' = upd H p (.tup [x, y]),
   fun i H => ∃ xs, SqT K H l1 xs /\ xs.length <= i /\ ∃ ys, SqT K H l2 ys⟩
noncomputable def znt (z a b i1 i2 l1 l2 : Addr) (i : Nat) (h : Heap) : Prop := IsZip h z a b .none /\ IsPair h a (.ref i1) (.ref i2) /\ (∃ u v, IsPair h b u v) /\ h.IsTupleIter i1 l1 i /\ h.IsTupleIter i2 l2 i
theorem turn_zip {P : Program} {w : World} {K : PySem.W.Frag} {elts : List Expr} {x1} {pos : Pos} {z a b i1 i2 l1 l2 : Addr} (D : ZipApart z a b i1 i2 l1 l2) : Turn P w K (.Tuple elts x1 pos) (Itz K l1 l2) [z, a, b, i1, i2] z (znt z a b i1 i2 l1 l2) where
  mem := by simp
  obj := fun i h st c hc => by
    obtain ⟨h1, h2, ⟨u, v, h3⟩, ⟨o4, h4, _, d4⟩, ⟨o5, h5, _, d5⟩⟩ := st
    simp only [List.mem_cons, List.mem_nil_iff, or_false] at hc
    rcases hc with rfl | rfl | rfl | rfl | rfl
    . exact ⟨_, h1, fun v z => by cases z⟩
    . exact ⟨_, h2, fun v z => by cases z⟩
    . exact ⟨_, h3, fun v z => by cases z⟩
    . exact ⟨_, h4, fun v z => by rw [d4] at z; cases z⟩
    . exact ⟨_, h5, fun v z => by rw [d5] at z; cases z⟩
  keep := fun i h h' st k => by
    obtain ⟨h1, h2, ⟨u, v, h3⟩, h4, h5⟩ := st
    exact ⟨k _ (by simp) _ h1, k _ (by simp) _ h2, ⟨u, v, k _ (by simp) _ h3⟩, h4.at fun o e => k _ (by simp) o e, h5.at fun o e => k _ (by simp) o e⟩
  item := by
    intro X hP hw hK hc i pins s σ H E I hf st hg
    subst hP hw hK
    obtain ⟨xs, ys, x, y, q1, q2, hx, hy⟩ := hg
    obtain ⟨its, rv, p, hz⟩ := I.tuple q1
    obtain ⟨its', rv', p', hz'⟩ := I.tuple q2
    obtain ⟨u, hu, ru⟩ := rv.get hx
    obtain ⟨u', hu', ru'⟩ := rv'.get hy
    obtain ⟨h1, h2, h3, h4, h5⟩ := id st
    refine zipNext D ⟨h1, h2, h3, h4, h5, p, p'⟩ (x := u) (y := u') (by simpa using hu) (by simpa using hu') fun g Z pr all => ⟨_, rfl, ?_⟩
    refine wpAny_letOwnedTupleGo_zip (s := { s with heap := g }) Z.z fun g2 e2 s2 => ?_
    have hn : H s.heap.objs.size = none := I.hok.fresh (Nat.le_refl _)
    have lt : ∀ c ∈ [z, a, b, i1, i2], c < s.heap.objs.size := fun c hc => by
      have := (hf c hc)
      obtain ⟨w1, w2, ⟨_, _, w3⟩, ⟨_, w4, _⟩, ⟨_, w5, _⟩⟩ := st
      simp only [List.mem_cons, List.mem_nil_iff, or_false] at hc
      rcases hc with rfl | rfl | rfl | rfl | rfl
      . exact Heap.lt_size w1
      . exact Heap.lt_size w2
      . exact Heap.lt_size w3
      . exact Heap.lt_size w4
      . exact Heap.lt_size w5
    have kp : ∀ c o, c ∉ [z, a, b, i1, i2] -> s.heap.get? c = some o -> g2.get? c = some o := fun c o hc e => by
      simp only [List.mem_cons, List.mem_nil_iff, or_false, not_or] at hc
      exact s2.extBut _ _ hc.1 (all c o hc.1 hc.2.2.1 hc.2.2.2.1 hc.2.2.2.2 e)
    have trk : ∀ c u, H c = some u -> c ∉ [z, a, b, i1, i2] := fun c u e hc => by rw [(hf c hc).1] at e; cases e
    have pr2 : g2.get? s.heap.objs.size = some { cls := .type "tuple", data := .seq #[u, u'] } := s2.extBut _ _ (Nat.ne_of_gt (lt z (by simp))) pr
    have I2 : Inv X pins σ (upd H s.heap.objs.size (.tup [x, y])) { s with heap := g2 } := by
      refine I.step (g' := s.gens) (d' := s.drawn) (t' := s.toks) (ch := [z, a, b, i1, i2]) (fun c hc => ?_) (fun c o _ _ hc e _ => kp c o hc e) (fun c o _ _ hc e _ => ⟨o.slots, kp c o hc e⟩) (fun c o _ e n => ?_)
        (fun c o hc e => ⟨o, kp c o hc e⟩) (fun c vs e => ?_) (fun c o vs e => ?_) (fun c ps e => ⟨#[], ?_⟩) (fun m hm => ?_) (fun c v e => ?_) I.bare
      . obtain ⟨f0, f1, f2, f3, f4, f5⟩ := hf c hc
        exact ⟨f3, f1, f4, f5⟩
      . rw [upd_ne (Nat.ne_of_lt (Heap.lt_size e))]; exact n
      . rw [upd_ne (ne_of_none e hn)]; exact e
      . rw [upd_ne (ne_of_none e hn)]; exact e
      . rw [upd_ne (ne_of_none e hn), e]; simp
      . obtain ⟨o, es, ep, ho, r⟩ := hm
        exact ⟨o, es, ep, kp _ o (fun hc => (hf _ hc).2.1 rfl) ho, r⟩
      . by_cases hb : c = s.heap.objs.size
        . subst hb
          rw [upd_same] at e; cases e
          exact ⟨by show 2 <= sizeLine; decide, [u, u'], .cons ru (.cons ru' .nil), ⟨_, pr2, rfl, _, rfl⟩⟩
        . rw [upd_ne hb] at e
          refine (I.hok c v e).stay (fun d o hd q => kp d o ?_ q) (fun d q => by rw [upd_ne (ne_of_none q hn)]; exact q) fun d ts q => by rw [upd_ne (ne_of_none q hn)]; exact q
          rcases hd with rfl | hd
          . exact trk _ _ e
          . exact trk _ _ hd
    refine ⟨.ref s.heap.objs.size, _, I2, rfl, ⟨_, hn, rfl, fun xs' ys' x' y' a1 a2 a3 a4 => ?_⟩, ⟨e2, s2.extBut _ _ D.TIz Z.a, ?_, Z.i1.extBut s2.extBut D.i1z, Z.i2.extBut s2.extBut D.i2z⟩, fun c hc => ?_⟩
    . rw [I.tuple_inj a1 q1, hx] at a3
      rw [I.tuple_inj a2 q2, hy] at a4
      cases a3; cases a4; rfl
    . obtain ⟨v1, v2, e3⟩ := Z.b
      exact ⟨v1, v2, s2.extBut _ _ D.TOz e3⟩
    . rw [upd_ne (Nat.ne_of_lt (lt c hc))]; exact (hf c hc).1
  done := by
    intro X hP hw hK hc i pins s σ H E I hf st hg
    subst hP hw hK
    obtain ⟨xs, q1, hx, ys, q2⟩ := hg
    obtain ⟨its, rv, p, hz⟩ := I.tuple q1
    obtain ⟨its', rv', p', hz'⟩ := I.tuple q2
    obtain ⟨h1, h2, h3, h4, h5⟩ := id st
    have hl := rv.length
    refine zipEnd (I.ok.hd hc) D ⟨h1, h2, h3, h4, h5, p, p'⟩ (by simp; omega) fun g all => ⟨rfl, ?_⟩
    have kp : ∀ c o, c ∉ [z, a, b, i1, i2] -> s.heap.get? c = some o -> g.get? c = some o := fun c o hc e => by
      simp only [List.mem_cons, List.mem_nil_iff, or_false, not_or] at hc
      exact all c o hc.1 hc.2.2.1 hc.2.2.2.1 hc.2.2.2.2 e
    have trk : ∀ c u, H c = some u -> c ∉ [z, a, b, i1, i2] := fun c u e hc => by rw [(hf c hc).1] at e; cases e
    refine I.step (g' := s.gens) (d' := s.drawn) (t' := s.toks) (ch := [z, a, b, i1, i2]) (fun c hc => ?_) (fun c o _ _ hc e _ => kp c o hc e) (fun c o _ _ hc e _ => ⟨o.slots, kp c o hc e⟩) (fun c o _ e n => n)
        (fun c o hc e => ⟨o, kp c o hc e⟩) (fun c vs e => e) (fun c o vs e => e) (fun c ps e => ⟨#[], by rw [e]; simp⟩) (fun m hm => ?_) (fun c v e => ?_) I.bare
    . obtain ⟨f0, f1, f2, f3, f4, f5⟩ := hf c hc
      exact ⟨f3, f1, f4, f5⟩
    . obtain ⟨o, es, ep, ho, r⟩ := hm
      exact ⟨o, es, ep, kp _ o (fun hc => (hf _ hc).2.1 rfl) ho, r⟩
    . refine (I.hok c v e).stay (fun d o hd q => kp d o ?_ q) (fun d q => q) fun d ts q => q
      rcases hd with rfl | hd
      . exact trk _ _ e
      . exact trk _ _ hd
  self := fun _ _ _ _ _ st h => wpAny_pyIter_zip st.1 h
section
variable {X : Cx}
noncomputable def iZip (K : PySem.W.Frag) (ta : TA) : TI := fun σ H R => ta σ H fun vs H1 => ∃ l1 l2, vs = [.ref l1, .ref l2] /\ (∃ xs, SqT K H1 l1 xs) /\ (∃ ys, SqT K H1 l2 ys) /\ R (Itz K l1 l2) H1
theorem pi_zip {a b : Expr} {ta : TA} {p pos pt : Pos} {elts : List Expr} {x1} (hg : Gl X "zip") (hm : X.mg "zip" = none) (ha : PA X [a, b] ta) (hs : starEach [a, b] X.env = [(false, eval a X.env), (false, eval b X.env)] := by rfl) (hs2 : starEach [b] X.env = [(false, eval b X.env)] := by rfl) :
    PI X (.Tuple elts x1 pt) (.Call (.Name "zip" p) [a, b] [] pos) (iZip X.K ta) := by
  intro pins s σ H R I h
  refine Call_ (ld_blt I hg hm boot_zip (PyProof.Rows.callWith_type1 (thn (ha pos pins s σ H _ I h) fun us s1 ⟨vs, H1, I1, r1, q1⟩ => ?_) (by rw [hs, hs2]) (by rw [hs2]; rfl)))
  obtain ⟨l1, l2, e, ⟨xs, q1⟩, ⟨ys, q2⟩, q⟩ := q1
  subst e
  cases r1 with
  | cons r rr =>
    cases rr with
    | cons r' rr =>
      cases rr
      cases (show _ = Value.ref l1 from r)
      cases (show _ = Value.ref l2 from r')
      obtain ⟨its, rv, p1, _⟩ := I1.tuple q1
      obtain ⟨its', rv', p2, _⟩ := I1.tuple q2
      have a1 : l1 < s1.heap.objs.size := by obtain ⟨_, e, _⟩ := p1; exact Heap.lt_size e
      have a2 : l2 < s1.heap.objs.size := by obtain ⟨_, e, _⟩ := p2; exact Heap.lt_size e
      refine callZip (show s1.heap.IsTuple l1 its.toArray from p1) (show s1.heap.IsTuple l2 its'.toArray from p2) fun g Z all => ?_
      refine wpAny_pyIter_zip (s := { s1 with heap := g }) Z.z ?_
      refine ⟨_, _, _, _, H1, rfl, I1.kept (t' := s1.toks) all, turn_zip (PyProof.Rows.zipApart_new a1 a2), ⟨Z.z, Z.a, Z.b, Z.i1, Z.i2⟩, fun b hb => ?_, q⟩
      have ge : s1.heap.objs.size <= b := by
        simp only [List.mem_cons, List.mem_nil_iff, or_false] at hb
        rcases hb with rfl | rfl | rfl | rfl | rfl
        . exact Nat.le_add_right _ 4
        . exact Nat.le_add_right _ 2
        . exact Nat.le_add_right _ 3
        . exact Nat.le_refl _
        . exact Nat.le_add_right _ 1
      exact I1.fpOk ge (I1.hok.fresh ge)
end
end L2
end
section
namespace L2
open PySem PySem.Spec PyProof.Rows
theorem weight_in : ∀ (ns : List Int) (n : Int), n ∈ ns -> PySem.W.WData.weight (.int n) <= PySem.W.WData.weightAll (ns.map PySem.W.WData.int)
  | m :: ns, n, h => by
    rw [List.map_cons, PySem.W.WData.weightAll]
    rcases List.mem_cons.mp h with rfl | h
    . omega
    . have := weight_in ns n h
      omega
theorem walkB {l : PySem.W.OpenLaw} {n k : Nat} {q : Program} {loose : List Str} {XP : (Str -> Option Value) -> Heap -> Prop} {YP : World -> Heap -> Prop} {d : DefRec} {K : Params -> PySem.W.Frag} {sp : PySem.W.Frag -> Sp} {x : Str}
    (hn : l.most = some n) (hn2 : n <= sizeLine) (hdf : d.params.defaults = []) (hr : Room k callerA) (hY : ∀ (w : World) (h : Heap), YP w h -> (K w.params).In h)
    (F : ∀ (w : World) (mg : Str -> Option Value) (fa : Addr) (h : Heap), (K w.params).In h -> h.Ns mainGlobals mg -> mg d.name = some (.ref fa) ->
      ∃ fd : FuncData, (∀ (s : Shared) (u : Value), BindsTo s fd ⟨[u], []⟩ [(x, u)]) /\ ∀ base : Heap, (K w.params).In base -> base.Ns mainGlobals mg -> FnOk l.prog w (K w.params) mg base CX0 k fa fd [x] (sp (K w.params)))
    (hsp : ∀ (K : PySem.W.Frag) (H : Hp) (a : Addr) (ns : List Int), ns.length <= n -> (∀ v ∈ ns, Builtin.Int.intBits v <= 2 ^ 20) -> SqL K H a (ns.map V.int) -> sp K [.ref a] H (fun v _ => v = .bl true) fun _ _ _ => False) :
    PySem.W.WalkO q loose XP YP l.row.toRowW d [] (fun f vs => PySem.call f vs) := by
  intro w s₀ s₁ mg mb G Y fa o pm cd doc dV kV ho hd hcd hD hmg hg args vals as hpre hlay hrd hwl hlo
  obtain rfl : dV = .none := PySem.W.Dflts.none hD hdf
  obtain rfl : kV = .none := PySem.W.Dflts.noKw hD
  obtain ⟨a, vs, ns, rfl, rfl, hobj, hints, hlen⟩ := Att.script_of hn hpre hwl
  have bits : ∀ v ∈ ns, Builtin.Int.intBits v <= 2 ^ 20 := fun v hv => by
    have h1 : PySem.W.WData.layable (.list (ns.map PySem.W.WData.int)) = true := by
      have h2 : [PySem.W.WData.list (ns.map PySem.W.WData.int)].all PySem.W.WData.layable = true := hlay
      simpa only [List.all_cons, List.all_nil, Bool.and_true] using h2
    have h3 := (PySem.W.layableW_iff.mp h1).2.2
    have h4 := weight_in ns v hv
    rw [PySem.W.WData.weight] at h3
    have h5 : PySem.W.WData.weight (.int v) = Builtin.Int.intBits v := by first | rfl | simp only [PySem.W.WData.weight, Builtin.Int.intBits]
    omega
  have KX := hY w _ Y
  obtain ⟨fd, hb, hF⟩ := F w mg fa _ KX G.T.g hmg
  have call := law_call KX G.T.g G.T.b G.T.builtins G.T.nolimit hg hobj hints (Nat.le_trans hlen hn2) hr hF hb (fun H hO hS => hsp (K w.params) H a ns hlen bits hS) fun H e s' z => z
  refine PySem.W.enter_call (codeAny_mono call fun r s' hq => ?_)
  obtain ⟨rfl, h2, h3, h4⟩ := hq
  exact ⟨.inl ⟨.bool true, .bool true, [], rfl, fun _ => rfl, .bool true, Att.post_true l _, fun _ => ⟨List.Pairwise.nil, fun _ hm => (nomatch hm)⟩⟩, h2, h3, h4⟩
end L2
end
section
namespace L2
open PySem PySem.Spec PyProof.Rows
open PySem.W (Dat kqdP kqdPs kqdOk)
noncomputable def Tm (H H' : Hp) : Prop := ∀ (K : PySem.W.Frag) (a : Addr) (xs : List V), SqT K H a xs -> SqT K H' a xs
theorem Tm.refl (H : Hp) : Tm H H := fun _ _ _ h => h
theorem Tm.trans {H H1 H2 : Hp} (a : Tm H H1) (b : Tm H1 H2) : Tm H H2 := fun K c o h => b K c o (a K c o h)
theorem Same.tm {H H' : Hp} (e : Same H H') : Tm H H' := fun _ _ _ h => e.tup h
theorem Tm.lst {H : Hp} {D : Addr} {ys : List V} (h : H D = some (.lst ys)) (o : HO) : Tm H (upd H D o) := fun K a xs q => by
  rcases q with (q | ⟨ob, q⟩) | q
  . exact .inl (.inl (by rw [upd_ne (ne_of q h (fun z => by cases z))]; exact q))
  . exact .inl (.inr ⟨ob, by rw [upd_ne (ne_of q h (fun z => by cases z))]; exact q⟩)
  . exact .inr q
noncomputable def SB (p : Addr) (H H' : Hp) : Prop := ∀ b o, b ≠ p -> H b = some o -> H' b = some o
theorem SB.refl (p : Addr) (H : Hp) : SB p H H := fun _ _ _ h => h
theorem SB.trans {p : Addr} {H H1 H2 : Hp} (a : SB p H H1) (b : SB p H1 H2) : SB p H H2 := fun c o n h => b c o n (a c o n h)
theorem SB.upd {p : Addr} {H : Hp} {o : HO} : SB p H (upd H p o) := fun b u n h => by rw [upd_ne n]; exact h
theorem SB.tm {p : Addr} {H H' : Hp} {ys : List V} (e : SB p H H') (h : H p = some (.lst ys)) : Tm H H' := fun K a xs q => by
  rcases q with (q | ⟨ob, q⟩) | q
  . exact .inl (.inl (e _ _ (ne_of q h (fun z => by cases z)) q))
  . exact .inl (.inr ⟨ob, e _ _ (ne_of q h (fun z => by cases z)) q⟩)
  . exact .inr q
theorem Same.snoc {H H5 : Hp} {D : Addr} {o : HO} (h : Same H H5) (hn : H D = Option.none) : Same H (upd H5 D o) := fun b u e => by rw [upd_ne (ne_of_none e hn)]; exact h b u e
mutual
inductive Fz (K : PySem.W.Frag) (H : Hp) : V -> Dat -> Prop
  | none : Fz K H .non .none
  | bool (b : Bool) : Fz K H (.bl b) (.bool b)
  | int (i : Int) : Fz K H (.int i) (.int i)
  | str (x : Str) : Fz K H (.str x) (.str x)
  | tup {a : Addr} {xs : List V} {ds : List Dat} : SqT K H a xs -> Fzs K H xs ds -> Fz K H (.ref a) (.tuple ds)
inductive Fzs (K : PySem.W.Frag) (H : Hp) : List V -> List Dat -> Prop
  | nil : Fzs K H [] []
  | cons {x : V} {d : Dat} {xs : List V} {ds : List Dat} : Fz K H x d -> Fzs K H xs ds -> Fzs K H (x :: xs) (d :: ds)
end
section
variable {K : PySem.W.Frag} {H H' : Hp}
mutual
theorem Fz.tm (e : Tm H H') : ∀ {v : V} {d : Dat}, Fz K H v d -> Fz K H' v d
  | _, _, .none => .none
  | _, _, .bool b => .bool b
  | _, _, .int i => .int i
  | _, _, .str x => .str x
  | _, _, .tup h r => .tup (e _ _ _ h) (Fzs.tm e r)
theorem Fzs.tm (e : Tm H H') : ∀ {v : List V} {d : List Dat}, Fzs K H v d -> Fzs K H' v d
  | _, _, .nil => .nil
  | _, _, .cons h r => .cons (Fz.tm e h) (Fzs.tm e r)
end
theorem Fzs.length : ∀ {v : List V} {d : List Dat}, Fzs K H v d -> v.length = d.length
  | _, _, .nil => rfl
  | _, _, .cons _ r => by rw [List.length_cons, List.length_cons, Fzs.length r]
theorem Fzs.snoc : ∀ {v : List V} {d : List Dat} {x : V} {e : Dat}, Fzs K H v d -> Fz K H x e -> Fzs K H (v ++ [x]) (d ++ [e])
  | _, _, _, _, .nil, h => .cons h .nil
  | _, _, _, _, .cons a r, h => .cons a (Fzs.snoc r h)
theorem Fzs.ints_inv : ∀ {vs : List V} {ns : List Int}, Fzs K H vs (ns.map Dat.int) -> vs = ns.map V.int
  | _, [], h => by cases h; rfl
  | _, n :: ns, h => by
    cases h with
    | cons a r =>
      cases a
      rw [Fzs.ints_inv r]; rfl
end
section
variable {K : PySem.W.Frag} {te : TE} {σ : St} {H : Hp} {Q : VK}
theorem comp_by {J : It} {g : TG} {no n : Nat} (ds : List Dat) (hn : ds.length = n) (hz : n <= sizeLine) {Pσ : Nat -> St -> Prop} (h0 : Pσ 0 (List.replicate no none ++ σ))
    (stop : ∀ H', Same H H' -> J.stop n H') (go : ∀ i H', i < n -> Same H H' -> J.go i H')
    (turn : ∀ i σ' H' d, ds[i]? = some d -> Same H H' -> Pσ i σ' -> ∀ x H2, J.yld i H' x H2 -> g x σ' H2 fun σ3 H3 => te σ3 H3 fun v H5 => Pσ (i + 1) σ3 /\ Same H' H5 /\ Fz K H5 v d)
    (mono : ∀ x σ' H2 Q1 Q2, (∀ σ3 H3, Q1 σ3 H3 -> Q2 σ3 H3) -> g x σ' H2 Q1 -> g x σ' H2 Q2) (monoE : ∀ σ' H2 Q1 Q2, (∀ v H3, Q1 v H3 -> Q2 v H3) -> te σ' H2 Q1 -> te σ' H2 Q2)
    (fin : ∀ D H' ys, Same H H' -> H' D = some (.lst ys) -> H D = Option.none -> Fzs K H' ys ds -> Q (.ref D) H') :
    CompW no (J) g tAll te σ H Q := by
  intro D hD
  refine ⟨fun i m σ' H' => m = n - i /\ i <= n /\ Pσ i σ' /\ Same H H' /\ ∃ ys, H' D = some (.lst ys) /\ Fzs K H' ys (ds.take i), ⟨n, by omega, Nat.zero_le _, h0, Same.new hD _, [], upd_same, .nil⟩, ?_⟩
  rintro i m σ' H' ⟨rfl, hi, hp, hs, ys, hy, hf⟩
  by_cases hlt : i < n
  . refine .inr ⟨go i H' hlt hs, fun x H2 hy2 => ?_⟩
    obtain ⟨d, hd⟩ : ∃ d, ds[i]? = some d := ⟨ds[i], by simp⟩
    refine mono _ _ _ _ _ (fun σ3 H3 h3 => ?_) (turn i σ' H' d hd hs hp x H2 hy2)
    unfold tAll
    dsimp only
    rw [if_pos rfl]
    refine monoE _ _ _ _ (fun v H5 h5 => ?_) h3
    obtain ⟨p5, s5, f5⟩ := h5
    have l : ys.length = i := by rw [hf.length, List.length_take]; omega
    refine ⟨ys, s5 _ _ hy, by omega, n - (i + 1), by omega, rfl, hlt, p5, (hs.trans s5).snoc hD, ys ++ [v], upd_same, ?_⟩
    have tm := Tm.lst (s5 _ _ hy) (.lst (ys ++ [v]))
    rw [List.take_add_one, hd]
    exact ((hf.tm s5.tm).tm tm).snoc (f5.tm tm)
  . have e : i = n := by omega
    subst e
    refine .inl ⟨stop H' hs, fin D H' ys hs hy hD ?_⟩
    rw [<- hn, List.take_length] at hf
    exact hf
theorem gName_mono {i : Nat} : ∀ x σ' H2 Q1 Q2, (∀ σ3 H3, Q1 σ3 H3 -> Q2 σ3 H3) -> gName i x σ' H2 Q1 -> gName i x σ' H2 Q2 := fun _ _ _ _ _ h q => h _ _ q
theorem comp_tup {a : Addr} {xs : List V} (ds : List Dat) (hS : SqT K H a xs) (hn : ds.length = xs.length) (hz : xs.length <= sizeLine)
    (turn : ∀ (i : Nat) x H' d, xs[i]? = some x -> ds[i]? = some d -> Same H H' -> te (some x :: σ) H' fun v H5 => Same H' H5 /\ Fz K H5 v d)
    (monoE : ∀ σ' H2 Q1 Q2, (∀ v H3, Q1 v H3 -> Q2 v H3) -> te σ' H2 Q1 -> te σ' H2 Q2)
    (fin : ∀ D H' ys, Same H H' -> H' D = some (.lst ys) -> H D = Option.none -> Fzs K H' ys ds -> Q (.ref D) H') :
    CompW 1 (Itt K a) (gName 0) tAll te σ H Q := by
  refine comp_by (J := Itt K a) (K := K) ds hn hz (Pσ := fun _ σ' => ∃ o, σ' = o :: σ) ⟨none, rfl⟩ (fun H' s => ⟨xs, s.tup hS, Nat.le_refl _⟩) (fun i H' hi s => ⟨xs, xs[i], s.tup hS, by simp [hi]⟩) ?_ gName_mono monoE fin
  rintro i σ' H' d hd s ⟨o, rfl⟩ x H2 ⟨rfl, hy⟩
  have hx := hy xs (s.tup hS)
  refine monoE _ _ _ _ (fun v H3 h => ?_) (turn i x H2 d hx hd s)
  exact ⟨⟨_, rfl⟩, h⟩
noncomputable def gPair (K : PySem.W.Frag) : TG := gTup K 2 (gCons (gName 0) (gCons (gName 1) gNil))
theorem comp_zip {l1 l2 : Addr} {xs ys : List V} (ds : List Dat) (h1 : SqT K H l1 xs) (h2 : SqT K H l2 ys) (hl : ys.length = xs.length) (hn : ds.length = xs.length) (hz : xs.length <= sizeLine)
    (turn : ∀ (i : Nat) x y H' d, xs[i]? = some x -> ys[i]? = some y -> ds[i]? = some d -> Same H H' -> te (some x :: some y :: σ) H' fun v H5 => Same H' H5 /\ Fz K H5 v d)
    (monoE : ∀ σ' H2 Q1 Q2, (∀ v H3, Q1 v H3 -> Q2 v H3) -> te σ' H2 Q1 -> te σ' H2 Q2)
    (fin : ∀ D H' ys, Same H H' -> H' D = some (.lst ys) -> H D = Option.none -> Fzs K H' ys ds -> Q (.ref D) H') :
    CompW 2 (Itz K l1 l2) (gPair K) tAll te σ H Q := by
  refine comp_by (J := Itz K l1 l2) (K := K) ds hn hz (Pσ := fun _ σ' => ∃ o p, σ' = o :: p :: σ) ⟨none, none, rfl⟩ (fun H' s => ⟨xs, s.tup h1, Nat.le_refl _, ys, s.tup h2⟩) (fun i H' hi s => ⟨xs, ys, xs[i], ys[i], s.tup h1, s.tup h2, by simp [hi], by simp [hl, hi]⟩) ?_ ?_ monoE fin
  . rintro i σ' H' d hd s ⟨o, o', rfl⟩ x H2 ⟨p, hp, rfl, hy⟩
    have hi : i < xs.length := by
      have := (List.getElem?_eq_some_iff.mp hd).1
      omega
    have ex : xs[i]? = some xs[i] := by simp [hi]
    have ey : ys[i]? = some (ys[i]'(by omega)) := by simp [hl, hi]
    have e2 := hy xs ys _ _ (s.tup h1) (s.tup h2) ex ey
    subst e2
    have s2 : Same H' (upd H' p (.tup [xs[i], ys[i]'(by omega)])) := Same.new hp _
    refine ⟨p, _, rfl, SqT.of upd_same, rfl, _, _, rfl, _, _, rfl, rfl, ?_⟩
    refine monoE _ _ _ _ (fun v H3 h => ?_) (turn i _ _ _ d ex ey hd (s.trans s2))
    exact ⟨⟨_, _, rfl⟩, s2.trans h.1, h.2⟩
  . rintro x σ' H2 Q1 Q2 hq ⟨a, vs, e1, e2, e3, v1, r1, e4, v2, r2, e5, e6, q⟩
    exact ⟨a, vs, e1, e2, e3, v1, r1, e4, v2, r2, e5, e6, hq _ _ q⟩
theorem pg_pair {X : Cx} {own : List Str} {scope : Scope} {C : Addr} {fp : List Addr} {s : Shared} {H : Hp} {x y : Str} {px py pos : Pos} {k : Nat} (hc : X.calm = true) (nd : (cxComp X own scope C fp s H).N.Nodup) (h0 : (cxComp X own scope C fp s H).N[0]? = some x) (h1 : (cxComp X own scope C fp s H).N[1]? = some y)
    (l0 : (cxComp X own scope C fp s H).env.scope.names.lookup x = some .local) (l1 : (cxComp X own scope C fp s H).env.scope.names.lookup y = some .local) : PG (cxComp X own scope C fp s H) (.Tuple [.Name x px, .Name y py] k pos) (gPair X.K) :=
  pg_tup (X := cxComp X own scope C fp s H) (n := 2) hc (pgs_cons (pg_name (i := 0) nd h0 (Or.inl l0) (Or.inr l0)) (pgs_cons (pg_name (i := 1) nd h1 (Or.inl l1) (Or.inr l1)) pgs_nil))
end
end L2
end
section
namespace L2
open PySem PySem.Spec PyProof.Rows
section
variable {X : Cx} {es : List Expr} {t : TA} {te : TE}
theorem pa_i {i : Int} {j : Nat} {p : Pos} (hr : PA X es t) : PA X (.Constant (.int i) j p :: es) (tCons (tC (.int i)) t) := pa_cons pe_int hr rfl
theorem pa_n {x : Str} {p : Pos} (ha : PE X (.Name x p) te) (hr : PA X es t) : PA X (.Name x p :: es) (tCons te t) := pa_cons ha hr rfl
theorem pa_b {a b : Expr} {op : Operator} {p : Pos} (ha : PE X (.BinOp a op b p) te) (hr : PA X es t) : PA X (.BinOp a op b p :: es) (tCons te t) := pa_cons ha hr rfl
theorem pa_u {a : Expr} {op : UnaryOp} {p : Pos} (ha : PE X (.UnaryOp op a p) te) (hr : PA X es t) : PA X (.UnaryOp op a p :: es) (tCons te t) := pa_cons ha hr rfl
theorem pa_s {a b : Expr} {p : Pos} (ha : PE X (.Subscript a b p) te) (hr : PA X es t) : PA X (.Subscript a b p :: es) (tCons te t) := pa_cons ha hr rfl
theorem pa_c {f : Expr} {a : List Expr} {k : List Keyword} {p : Pos} (ha : PE X (.Call f a k p) te) (hr : PA X es t) : PA X (.Call f a k p :: es) (tCons te t) := pa_cons ha hr rfl
theorem pa_t {a : List Expr} {p : Pos} {k : Nat} (ha : PE X (.Tuple a k p) te) (hr : PA X es t) : PA X (.Tuple a k p :: es) (tCons te t) := pa_cons ha hr rfl
theorem pa_l {a : List Expr} {p : Pos} (ha : PE X (.List a p) te) (hr : PA X es t) : PA X (.List a p :: es) (tCons te t) := pa_cons ha hr rfl
theorem pix_call {f : Expr} {a : List Expr} {k : List Keyword} {p : Pos} : PlainIx (.Call f a k p) := fun _ _ => rfl
theorem sw_sub {a b : Expr} {p : Pos} {t : Option Expr} {l : Nat} {env : Env} : swapsWith (.Subscript a b p) t l env = pure false := rfl
end
end L2
end
section
namespace L2
open PySem PySem.Spec PyProof.Rows
open PySem.W (Dat)
section
end
theorem kqd_ints (ns : List Int) (n : Nat) : (ns.map Dat.int).all (PySem.W.kqdOk n) = true := by
  rw [List.all_map, List.all_eq_true]
  intro x _
  cases n <;> rfl
theorem kqd_tup {ns : List Int} : PySem.W.kqdOk 9 (.tuple (ns.map .int)) = true := kqd_ints ns 8
theorem map_int_inj {ns ms : List Int} (h : ns.map Dat.int = ms.map Dat.int) : ns = ms := by
  induction ns generalizing ms with
  | nil => cases ms with
    | nil => rfl
    | cons b r => cases h
  | cons a r ih => cases ms with
    | nil => cases h
    | cons b r' =>
      rw [List.map_cons, List.map_cons] at h
      injection h with h1 h2
      injection h1 with h1
      rw [h1, ih h2]
theorem deq_tup {ns ms : List Int} : deq (.tuple (ns.map .int)) (.tuple (ms.map .int)) = decide (ns = ms) := by
  by_cases h : ns = ms
  . subst h; rw [deq_self, decide_eq_true rfl]
  . rw [decide_eq_false h]
    exact deq_ne fun z => h (map_int_inj (by injection z))
end L2
end
section
namespace L2
open PySem PySem.Spec PyProof.Rows
noncomputable def DefAt (K : PySem.W.Frag) (x : Str) (st : Stmt) : Prop := ∃ (f : Addr) (oc : Value) (od : Option Addr) (kV dc pm : Value) (an : Option Addr) (cd ct : Value) (sl : Array (Option Value)),
  PySem.W.nsIn K mainGlobals x = some (some (.ref f)) /\ K.lookup f = some ⟨oc, od, .func (PySem.W.fnOf x x (defArgs st) (defBody st) (defScope st) .none kV dc pm an cd ct), sl⟩ /\ PySem.W.codeIn K cd x = true /\ PySem.W.keepIn K (.ref f) = true
theorem DefAt.mk {K : PySem.W.Frag} {x : Str} {st : Stmt} {f : Addr} {oc : Value} {od : Option Addr} {kV dc pm : Value} {an : Option Addr} {cd ct : Value} {sl : Array (Option Value)} (a : PySem.W.nsIn K mainGlobals x = some (some (.ref f)))
    (l : K.lookup f = some ⟨oc, od, .func (PySem.W.fnOf x x (defArgs st) (defBody st) (defScope st) .none kV dc pm an cd ct), sl⟩) (c : PySem.W.codeIn K cd x = true) (k : PySem.W.keepIn K (.ref f) = true) : DefAt K x st := ⟨f, oc, od, kV, dc, pm, an, cd, ct, sl, a, l, c, k⟩
theorem DefAt.get {K : PySem.W.Frag} {x : Str} {st : Stmt} {h : Heap} {mg : Str -> Option Value} (d : DefAt K x st) (X : K.In h) (G : h.Ns mainGlobals mg) : ∃ (f : Addr) (fd : FuncData), Fun K x x st f fd /\ mg x = some (.ref f) /\ PySem.W.keepIn K (.ref f) = true := by
  obtain ⟨f, oc, od, kV, dc, pm, an, cd, ct, sl, a, l, c, k⟩ := d
  exact ⟨f, _, fun_mk l c k, PySem.W.mg_of X G a, k⟩
theorem DefAt.law {K : PySem.W.Frag} {x y : Str} {st : Stmt} {h : Heap} {mg : Str -> Option Value} {fa : Addr} (d : DefAt K x st) (X : K.In h) (G : h.Ns mainGlobals mg) (hfa : mg x = some (.ref fa))
    (hb : ∀ (kV doc pm : Value) (an : Option Addr) (cdv ct : Value) (u : Value), bindArgs (PySem.W.fnOf x x (defArgs st) (defBody st) (defScope st) .none kV doc pm an cdv ct) ⟨[u], []⟩ = pure [(y, u)]) : ∃ (fd : FuncData), Fun K x x st fa fd /\ ∀ (s : Shared) (v : Value), BindsTo s fd ⟨[v], []⟩ [(y, v)] := by
  obtain ⟨f, oc, od, kV, dc, pm, an, cd, ct, sl, a, l, c, k⟩ := d
  have e := hfa.symm.trans (PySem.W.mg_of X G a)
  cases e
  exact ⟨_, fun_mk l c k, fun s v => .of_eq (hb kV dc pm an cd ct v)⟩
end L2
end
section
namespace L2
open PySem PySem.Spec PyProof.Rows
structure ZE (X : Cx) (e : Expr) (t : TE) : Prop where out : PE X e t
structure ZT (X : Cx) (e : Expr) (t : TT) : Prop where out : PT X e t
structure ZW (X : Cx) (e : Expr) (t : TT) : Prop where out : PW X e t
structure ZA (X : Cx) (es : List Expr) (t : TA) : Prop where out : PA X es t
structure ZS (X : Cx) (st : Stmt) (t : TS) : Prop where out : PS X st t
structure ZSs (X : Cx) (st : List Stmt) (t : TS) : Prop where out : PSs X st t
structure ZG (X : Cx) (e : Expr) (t : TG) : Prop where out : PG X e t
structure ZGs (X : Cx) (es : List Expr) (t : TGs) : Prop where out : PGs X es t
structure ZI (X : Cx) (tg iter : Expr) (wi : TI) : Prop where out : PI X tg iter wi
structure ZTs (X : Cx) (es : List Expr) (t : TT) : Prop where out : PTs X es t
structure ZO (X : Cx) (e : Option Expr) (t : TO) : Prop where out : PO X e t
section
variable {X : Cx} {a b c e tg : Expr} {es : List Expr} {te ta tb tc : TE} {t : TA} {pos p p2 : Pos} {x : Str}
theorem zss_nil : ZSs X [] tNext := ⟨pss_nil⟩
theorem zss_cons {st : Stmt} {rest : List Stmt} {t u : TS} (h1 : ZS X st t) (h2 : ZSs X rest u) : ZSs X (st :: rest) (tSeq t u) := ⟨pss_cons h1.out h2.out⟩
theorem zss_one {st : Stmt} {t : TS} (h1 : ZS X st t) : ZSs X [st] t := ⟨pss_one h1.out⟩
theorem zs_set {i : Nat} {pos' : Pos} (hN : X.N.Nodup) (hi : X.N[i]? = some x) (hx : Loc X.env.scope x) (he : ZE X e te) (hs : swapsWith e (some (.Name x pos')) pos.line X.env = pure false := by rfl) (hf : X.fn x = true \/ X.env.scope.names.lookup x = some .local := by first | exact .inl rfl | exact .inr rfl | assumption) :
    ZS X (.Assign [.Name x pos'] e pos) (tAsg te (gName i)) := ⟨ps_set hN hi hx he.out hs hf⟩
theorem zs_for {iter : Expr} {body : List Stmt} {wi : TI} {g : TG} {tb : TS} (hp : PassesOwn (model X.prog X.w) X.A X.env X.xe) (hc : X.calm = true) (hi : ZI X tg iter wi) (hg : ZG X tg g) (hb : ZSs X body tb)
    (hs : ∀ x, foldedSetIterable iter X.env x = pure x := by intro _; rfl) : ZS X (.For tg iter body [] pos) (tFor wi g tb) := ⟨ps_for hp hc hi.out hg.out hb.out hs⟩
theorem zs_while {body : List Stmt} {tc : TT} {tb : TS} (hp : PassesOwn (model X.prog X.w) X.A X.env X.xe) (hc : ZT X c tc) (hb : ZSs X body tb) : ZS X (.While c body [] pos) (tWhile tc tb) := ⟨ps_while hp hc.out hb.out⟩
theorem zs_if {l m : List Stmt} {tc : TT} {t u : TS} (hc : ZT X c tc) (ha : ZSs X l t) (hb : ZSs X m u) : ZS X (.If c l m pos) (tIfS tc t u) := ⟨ps_if hc.out ha.out hb.out⟩
theorem zs_ret (he : ZE X e te) : ZS X (.Return (some e) pos) (tRet te) := ⟨ps_ret he.out⟩
theorem zs_expr (he : ZE X e te) (hs : swapsWith e none pos.line X.env = pure false := by rfl) : ZS X (.Expr e pos) (tDrop te) := ⟨ps_expr he.out hs⟩
theorem zs_asg {g : TG} (he : ZE X e te) (hg : ZG X tg g) (hs : swapsWithSole [tg] e pos.line X.env = pure false := by rfl) (hw : swappedStores [tg] e X.env = pure none := by rfl)
    (h1 : (assignEach [tg] X.env).map (·.2) = [assign tg X.env] := by rfl) : ZS X (.Assign [tg] e pos) (tAsg te g) := ⟨ps_asg he.out hg.out hs hw h1⟩
theorem zs_par {i j : Nat} {y : Str} {ta : TA} {px py pt : Pos} {kt k2 pt2} (hc : X.calm = true) (hN : X.N.Nodup) (hi : X.N[i]? = some x) (hj : X.N[j]? = some y) (hij : i ≠ j)
    (hx : X.env.scope.names.lookup x = some .local) (hy : X.env.scope.names.lookup y = some .local) (ha : ZA X [a, b] ta)
    (hw : swappedStores [.Tuple [.Name x px, .Name y py] kt pt] (.Tuple [a, b] k2 pt2) X.env = pure (some [x, y]))
    (hs : swapsWithSole [.Tuple [.Name x px, .Name y py] kt pt] (.Tuple [a, b] k2 pt2) pos.line X.env = pure false := by rfl) :
    ZS X (.Assign [.Tuple [.Name x px, .Name y py] kt pt] (.Tuple [a, b] k2 pt2) pos) (tPar i j ta) := ⟨ps_par hc hN hi hj hij hx hy ha.out hw hs⟩
theorem ze_int {i j} : ZE X (.Constant (.int i) j pos) (tC (.int i)) := ⟨pe_int⟩
theorem ze_bl {b j} : ZE X (.Constant (.bool b) j pos) (tC (.bl b)) := ⟨pe_bl⟩
theorem ze_non {j} : ZE X (.Constant .none j pos) (tC .non) := ⟨pe_non⟩
theorem zv (i : Nat) (hN : X.N[i]? = some x := by rfl) (hv : Vis X.env.scope x := by first | exact Or.inl rfl | exact Or.inr (Or.inl rfl) | exact Or.inr (Or.inr rfl)) (hd : (x == ("__debug__" : Str)) = false := by decide)
    (hcd : (x == ("__classdict__" : Str)) = false := by decide) : ZE X (.Name x pos) (tVar i) := ⟨pe_var hN hv hd hcd⟩
theorem ze_op {op : Operator} {r : R2} (ho : OpR X (binaryOp op) r) (ha : ZE X a ta) (hb : ZE X b tb) : ZE X (.BinOp a op b pos) (tOp r ta tb) := ⟨pe_op ho ha.out hb.out⟩
theorem ze_un {op : UnaryOp} {r : V -> Hp -> VK -> Prop} (ho : UnR X (unaryOp op) r) (ha : ZE X a ta) : ZE X (.UnaryOp op a pos) (tUn r ta) := ⟨pe_un ho ha.out⟩
theorem ze_cmpR {op : CmpOp} {r : R2} (ho : OpR X (compareOp op) r) (ha : ZE X a ta) (hb : ZE X b tb) (hm : behindInMarks op b = false) : ZE X (.Compare a [op] [b] pos) (tOp r ta tb) := ⟨pe_cmpR ho ha.out hb.out hm⟩
theorem zt_cmpR {op : CmpOp} {r : R2} (ho : OpR X (compareOp op) r) (ha : ZE X a ta) (hb : ZE X b tb) (hm : behindInMarks op b = false) : ZT X (.Compare a [op] [b] pos) (tTest (tOp r ta tb)) := ⟨pt_cmpR ho ha.out hb.out hm⟩
theorem zt_val {t : TE} (h : ZE X e t) (he : ∀ whole, isTrue e X.env whole = (do let v <- whole; standAt e.pos; holding [v] (truthy v)) := by intro _; rfl) : ZT X e (tB t) := ⟨pt_val h.out he⟩
theorem zt_not {tA : TT} (ha : ZT X a tA) : ZT X (.UnaryOp .Not a pos) (tNot tA) := ⟨pt_not ha.out⟩
theorem ZW.pt {t : TT} (h : ZW X e t) : ZT X e t := ⟨h.out.pt⟩
theorem zw_and1 {tA : TT} (ha : ZT X a tA) : ZW X (.BoolOp .And [a] pos) tA := ⟨pw_and1 ha.out⟩
theorem zw_and {tA tB' : TT} (ha : ZT X a tA) (hb : ZW X (.BoolOp .And (b :: es) pos) tB') : ZW X (.BoolOp .And (a :: b :: es) pos) (tAnd tA tB') := ⟨pw_and ha.out hb.out⟩
theorem ze_ix {r : R2} (hr : IxR X r) (ha : ZE X a ta) (hb : ZE X b tb) (hs : PlainIx b) : ZE X (.Subscript a b pos) (tOp r ta tb) := ⟨pe_ix hr ha.out hb.out hs⟩
theorem ze_slice {lo hi : Option Expr} {tl th : TO} {r : V -> Option Int -> Option Int -> Hp -> VK -> Prop} (hr : SlR X r) (he : ZE X e te) (hl : ZO X lo tl) (hu : ZO X hi th) : ZE X (.Subscript e (.Slice lo hi none p2) pos) (tSl r te tl th) := ⟨pe_slice hr he.out hl.out hu.out⟩
theorem zo_none : ZO X none tNoPart := ⟨po_none⟩
theorem zo_some (h : ZE X e te) : ZO X (some e) (tPart te) := ⟨po_some h.out⟩
theorem ze_lst (h : ZA X es t) : ZE X (.List es pos) (tLst t) := ⟨pe_lst h.out⟩
theorem ze_tup {x1} (h : ZA X es t) : ZE X (.Tuple es x1 pos) (tTup t) := ⟨pe_tup h.out⟩
theorem ze_call {CX : CXT} {k : Nat} {f : Addr} {fd : FuncData} {ps : List Str} {sp : Sp} {ds : List Value} {dvs : List V} {E : XK} (F : FnOk X.prog X.w X.K X.mg X.base CX k f fd ps sp) (hr : Room k X.A) (hg : Gl X x) (hm : X.mg x = some (.ref f)) (hk : PySem.W.keepIn X.K (.ref f) = true) (hb : Binds X.K fd ps ds) (hd : Vals dvs ds) (hx : Passes CX X E)
    (ha : ZA X (e :: es) t) (hdb : (x == ("__debug__" : Str)) = false := by decide) (he : starEach (e :: es) X.env = (false, eval e X.env) :: starEach es X.env := by rfl) (hpl : (backTo pos (starEach es X.env)).any (·.1) = false := by rfl) :
    ZE X (.Call (.Name x p) (e :: es) [] pos) (tCall sp dvs E t) := ⟨pe_call F hr hg hm hk hb hd hx ha.out hdb he hpl⟩
theorem ze_callB {id : String} {r : List V -> Hp -> VK -> Prop} (hc : CallR X (.builtin id) r) (hg : Gl X x) (hm : X.mg x = none) (hv : bootBuiltins x = some (.builtin id)) (ha : ZA X (e :: es) t) (hn : x ≠ "__name__" := by decide) (hdb : (x == ("__debug__" : Str)) = false := by decide)
    (he : starEach (e :: es) X.env = (false, eval e X.env) :: starEach es X.env := by rfl) (hpl : (backTo pos (starEach es X.env)).any (·.1) = false := by rfl) : ZE X (.Call (.Name x p) (e :: es) [] pos) (tCB r t) := ⟨pe_callB hc hg hm hv ha.out hn hdb he hpl⟩
theorem ze_callTy {T : String} {r : List V -> Hp -> VK -> Prop} (hc : CallR X (.type T) r) (hg : Gl X x) (hm : X.mg x = none) (hv : bootBuiltins x = some (.type T)) (ha : ZA X (e :: es) t) (hn : x ≠ "__name__" := by decide) (hdb : (x == ("__debug__" : Str)) = false := by decide)
    (he : starEach (e :: es) X.env = (false, eval e X.env) :: starEach es X.env := by rfl) (hpl : (backTo pos (starEach es X.env)).any (·.1) = false := by rfl) : ZE X (.Call (.Name x p) (e :: es) [] pos) (tCB r t) := ⟨pe_callTy hc hg hm hv ha.out hn hdb he hpl⟩
theorem za_nil : ZA X [] tNil := ⟨pa_nil⟩
theorem za_cons (ha : ZE X e te) (hr : ZA X es t) (hs : starEach (e :: es) X.env = (false, eval e X.env) :: starEach es X.env := by rfl) : ZA X (e :: es) (tCons te t) := ⟨pa_cons ha.out hr.out hs⟩
theorem za_i {i : Int} {j : Nat} (hr : ZA X es t) : ZA X (.Constant (.int i) j p :: es) (tCons (tC (.int i)) t) := ⟨pa_i hr.out⟩
theorem za_n (ha : ZE X (.Name x p) te) (hr : ZA X es t) : ZA X (.Name x p :: es) (tCons te t) := ⟨pa_n ha.out hr.out⟩
theorem za_b {op : Operator} (ha : ZE X (.BinOp a op b p) te) (hr : ZA X es t) : ZA X (.BinOp a op b p :: es) (tCons te t) := ⟨pa_b ha.out hr.out⟩
theorem za_u {op : UnaryOp} (ha : ZE X (.UnaryOp op a p) te) (hr : ZA X es t) : ZA X (.UnaryOp op a p :: es) (tCons te t) := ⟨pa_u ha.out hr.out⟩
theorem za_s (ha : ZE X (.Subscript a b p) te) (hr : ZA X es t) : ZA X (.Subscript a b p :: es) (tCons te t) := ⟨pa_s ha.out hr.out⟩
theorem za_c {f : Expr} {l : List Expr} {k : List Keyword} (ha : ZE X (.Call f l k p) te) (hr : ZA X es t) : ZA X (.Call f l k p :: es) (tCons te t) := ⟨pa_c ha.out hr.out⟩
theorem za_t {l : List Expr} {k : Nat} (ha : ZE X (.Tuple l k p) te) (hr : ZA X es t) : ZA X (.Tuple l k p :: es) (tCons te t) := ⟨pa_t ha.out hr.out⟩
theorem za_l {l : List Expr} (ha : ZE X (.List l p) te) (hr : ZA X es t) : ZA X (.List l p :: es) (tCons te t) := ⟨pa_l ha.out hr.out⟩
theorem zg_name {i : Nat} (hN : X.N.Nodup) (hi : X.N[i]? = some x) (hx : Loc X.env.scope x) (hf : X.fn x = true \/ X.env.scope.names.lookup x = some .local := by first | exact .inl rfl | exact .inr rfl | assumption) : ZG X (.Name x pos) (gName i) := ⟨pg_name hN hi hx hf⟩
theorem zg_sub {o i : Expr} {to ti : TE} {t : TSet} (ho : ZE X o to) (hi : ZE X i ti) (hs : PSet X t) (ha : ∀ v, assign (.Subscript o i pos) X.env v = (do
      let ov <- holding [v] (eval o X.env)
      let iv <- holding [v, ov] (eval i X.env)
      standAt pos
      holding [v, ov, iv] (setItem ov iv v)
      release [v, ov, iv] []) := by intro _; rfl) : ZG X (.Subscript o i pos) (gSub to ti t) := ⟨pg_sub ho.out hi.out hs ha⟩
theorem zgs_nil : ZGs X [] gNil := ⟨pgs_nil⟩
theorem zgs_cons {t : TG} {u : TGs} (h1 : ZG X e t) (h2 : ZGs X es u) (hs : (assignEach (e :: es) X.env).map (·.2) = assign e X.env :: (assignEach es X.env).map (·.2) := by rfl) : ZGs X (e :: es) (gCons t u) := ⟨pgs_cons h1.out h2.out hs⟩
theorem zg_tup {k : Nat} {t : TGs} {n : Nat} (hc : X.calm = true) (h : ZGs X es t) (hn : (assignEach es X.env).length = n := by rfl) (hst : (assignEach es X.env).findIdx? (·.1) = none := by rfl) : ZG X (.Tuple es k pos) (gTup X.K n t) := ⟨pg_tup hc h.out hn hst⟩
theorem zi_list (hl : ZE X e te) : ZI X tg e (iList X.K te) := ⟨pi_list hl.out⟩
theorem zi_tup (hl : ZE X e te) : ZI X tg e (iTup X.K te) := ⟨pi_tup hl.out⟩
theorem zi_range1 {ta : TA} (hg : Gl X "range") (hm : X.mg "range" = none) (ha : ZA X [a] ta) (hs : starEach [a] X.env = [(false, eval a X.env)] := by rfl) : ZI X tg (.Call (.Name "range" p) [a] [] pos) (iRng1 ta) := ⟨pi_range1 hg hm ha.out hs⟩
theorem zts_nil : ZTs X [] tAll := ⟨pts_nil⟩
theorem zts_one {t : TT} (h : ZT X c t) : ZTs X [c] t := ⟨pts_one h.out⟩
theorem ze_comp {own : List Str} {scope sc : Scope} {iter elt : Expr} {ifs : List Expr} {wi : TI} {g : TG} {tt : TT} {N0 P0 : List Str} (S0 : FnScope N0 P0 sc) (hc : X.calm = true) (S1 : CompScope own N0 sc scope) (hi : ZI X tg iter wi)
    (hg : ∀ C fp s H, (maskN own N0).Nodup -> ZG (cxComp X own scope C fp s H) tg g) (ht : ∀ C fp s H, ZTs (cxComp X own scope C fp s H) ifs tt) (he : ∀ C fp s H, ZE (cxComp X own scope C fp s H) elt te)
    (hs : ∀ x, foldedSetIterable iter X.env x = pure x := by intro _; rfl) (hN0 : X.N = N0 := by rfl) (hsc : X.env.scope = sc := by rfl) : ZE X (.ListComp elt [⟨tg, iter, ifs, 0⟩] scope pos) (tCompB own.length wi g tt te) :=
  ⟨pe_comp S0 hc S1 hi.out (fun C fp s H n => (hg C fp s H n).out) (fun C fp s H => (ht C fp s H).out) (fun C fp s H => (he C fp s H).out) hs hN0 hsc⟩
theorem zs_comp {own : List Str} {scope sc : Scope} {iter elt : Expr} {ifs : List Expr} {wi : TI} {g : TG} {tt : TT} {i : Nat} {pos' spos : Pos} {N0 P0 : List Str} (S0 : FnScope N0 P0 sc) (hc : X.calm = true) (S1 : CompScope own N0 sc scope) (hi : ZI X tg iter wi)
    (hg : ∀ C fp s H, (maskN own N0).Nodup -> ZG (cxComp X own scope C fp s H) tg g) (ht : ∀ C fp s H, ZTs (cxComp X own scope C fp s H) ifs tt) (he : ∀ C fp s H, ZE (cxComp X own scope C fp s H) elt te)
    (hN : X.N.Nodup) (hiN : X.N[i]? = some x) (hx : Loc X.env.scope x)
    (hsw : swapsWith (.ListComp elt [⟨tg, iter, ifs, 0⟩] scope pos) (some (.Name x pos')) spos.line X.env = pure true)
    (hs : ∀ x, foldedSetIterable iter X.env x = pure x := by intro _; rfl) (hf : X.fn x = true \/ X.env.scope.names.lookup x = some .local := by first | exact .inl rfl | exact .inr rfl | assumption) (hN0 : X.N = N0 := by rfl) (hsc : X.env.scope = sc := by rfl) :
    ZS X (.Assign [.Name x pos'] (.ListComp elt [⟨tg, iter, ifs, 0⟩] scope pos) spos) (tAsg (tCompB own.length wi g tt te) (gName i)) :=
  ⟨ps_comp S0 hc S1 hi.out (fun C fp s H n => (hg C fp s H n).out) (fun C fp s H => (ht C fp s H).out) (fun C fp s H => (he C fp s H).out) hN hiN hx hsw hs hf hN0 hsc⟩
theorem zi_zip {ta : TA} {pt : Pos} {elts : List Expr} {x1} (hg : Gl X "zip") (hm : X.mg "zip" = none) (ha : ZA X [a, b] ta) (hs : starEach [a, b] X.env = [(false, eval a X.env), (false, eval b X.env)] := by rfl) (hs2 : starEach [b] X.env = [(false, eval b X.env)] := by rfl) :
    ZI X (.Tuple elts x1 pt) (.Call (.Name "zip" p) [a, b] [] pos) (iZip X.K ta) := ⟨pi_zip hg hm ha.out hs hs2⟩
theorem zg_pair {own : List Str} {scope : Scope} {C : Addr} {fp : List Addr} {s : Shared} {H : Hp} {x y : Str} {px py : Pos} {k : Nat} (hc : X.calm = true) (nd : (cxComp X own scope C fp s H).N.Nodup) (h0 : (cxComp X own scope C fp s H).N[0]? = some x) (h1 : (cxComp X own scope C fp s H).N[1]? = some y)
    (l0 : (cxComp X own scope C fp s H).env.scope.names.lookup x = some .local) (l1 : (cxComp X own scope C fp s H).env.scope.names.lookup y = some .local) : ZG (cxComp X own scope C fp s H) (.Tuple [.Name x px, .Name y py] k pos) (gPair X.K) := ⟨pg_pair hc nd h0 h1 l0 l1⟩
end
section
variable {P : Program} {w : World} {K : PySem.W.Frag} {mg : Str -> Option Value} {base : Heap}
theorem Fun.okZ {x qual : Str} {st : Stmt} {f : Addr} {fd : FuncData} {N ps : List Str} {k : Nat} {sp : Sp} (F : Fun K x qual st f fd) (S : FnScope N ps (defScope st)) (len : ∀ vs H Q E, sp vs H Q E -> vs.length = ps.length)
    (hbody : ∀ (cdv : Value) (A : Around) (outer : List Env) (s : Shared) (H : Hp) (vs : List V) (Q : VK) (E : XK), Room k (A.deeper (envOfC qual (defScope st) s.heap.objs.size f cdv)) -> sp vs H Q E ->
      ∃ t, ZSs (cxOf CX0 P w K mg base N qual (defScope st) f cdv A outer s H E).nox (defBody st) t /\ t { nx := fun _ H' => Q .non H', rt := Q } (start N vs) H) : FnOk P w K mg base CX0 (k + 1) f fd ps sp :=
  F.ok S len fun cdv A outer s H vs Q E hr h => let ⟨t, b, q⟩ := hbody cdv A outer s H vs Q E hr h; ⟨t, b.out, q⟩
end
end L2
end
section
namespace L2
open PySem PySem.Spec PyProof.Rows
open PySem.W (Dat)
section
variable {K : PySem.W.Frag} {H : Hp} {σ : St} {te : TE} {Q : VK} {xs : List V}
theorem three_of {α : Type} {ys : List α} (h : ys.length = 3) : ∃ a b c, ys = [a, b, c] := by
  match ys, h with
  | [a, b, c], _ => exact ⟨a, b, c, rfl⟩
end
section
variable {X : Cx} {e o : Expr} {to te : TE} {apos cpos : Pos}
theorem ze_append (ho : ZE X o to) (ha : ZE X e te) (hbase : attributeBase o "append" X.env (eval o X.env) = eval o X.env := by rfl)
    (hfew : ((backTo cpos (starEach [e] X.env)).all (fun x => !x.1) && (backToKw cpos (keywordEach [] X.env)).all (fun x => x.1.isSome)
      && decide ([e].length + ([] : List Keyword).length + (if ([] : List Keyword).isEmpty then 0 else 1) < 30)) = true := by rfl)
    (hline : (apos.endLine == cpos.line) = true := by rfl) (hs : starEach [e] X.env = (false, eval e X.env) :: starEach [] X.env := by rfl) :
    ZE X (.Call (.Attribute o "append" apos) [e] [] cpos) (tBM X.K "list" rAppend to (tCons te tNil)) :=
  ⟨pe_bm PySem.F.plainAttrs_list slot_list_append (by rfl) mt_append ho.out (pa_cons ha.out pa_nil hs) hbase hfew hline hs⟩
end
section
variable {X : Cx} {own : List Str} {scope : Scope} {C : Addr} {fp : List Addr} {s : Shared} {H : Hp}
theorem ix_listC : IxR (cxComp X own scope C fp s H) (rIxL X.K) := ix_list
end
noncomputable def rCatW (K : PySem.W.Frag) : R2 := fun x y H Q => ∃ a b xs ys, x = .ref a /\ y = .ref b /\ SqT K H a xs /\ SqT K H b ys /\ xs.length + ys.length <= sizeLine /\ ∀ p H', Same H H' -> SqT K H' p (xs ++ ys) -> Q (.ref p) H'
section
variable {X : Cx}
theorem op_catW : OpR X (binaryOp .Add) (rCatW X.K) := by
  intro pins s σ H x y v u Q I rx ry h
  obtain ⟨a, b, xs, ys, rfl, rfl, ha, hb, hz, q⟩ := h
  by_cases hx : xs = []
  . subst hx
    cases rx
    cases ry
    obtain ⟨its, r1, p1, _⟩ := I.tuple ha
    obtain ⟨its2, r2, p2, _⟩ := I.tuple hb
    obtain ⟨m, F⟩ := I.fr
    have e : its = [] := r1.nil_iff.mpr rfl
    refine add_tuples (news := []) F (fun p hp => by simp at hp) p1 p2 (fun _ => ⟨.ref b, H, I, rfl, q b H (Same.refl _) (by simpa using hb)⟩) (fun n => absurd e n) (fun n => absurd e n) ?_
    rw [<- r1.length, <- r2.length]; exact hz
  . refine op_catT pins s σ H _ _ v u Q I rx ry ⟨a, b, xs, ys, rfl, rfl, ha, hb, hx, hz, fun e => ?_, fun e p hp => ?_⟩
    . subst e; exact q a H (Same.refl _) (by rw [List.append_nil]; exact ha)
    . exact q p _ (Same.new hp _) (SqT.of upd_same)
end
end L2
end
section
namespace Num
noncomputable def gcdN (ns : List Int) : Nat := ns.foldl (fun d n => Nat.gcd d n.natAbs) 0
theorem gcdN_snoc (ns : List Int) (n : Int) : gcdN (ns ++ [n]) = Nat.gcd (gcdN ns) n.natAbs := by
  unfold gcdN; rw [List.foldl_append]; rfl
theorem foldl_gcd (ns : List Int) : ∀ d : Nat, ns.foldl (fun d n => Nat.gcd d n.natAbs) d = Nat.gcd d (gcdN ns) := by
  induction ns with
  | nil => intro d; simp [gcdN]
  | cons n ns ih =>
    intro d
    unfold gcdN
    rw [List.foldl_cons, List.foldl_cons, ih, ih, Nat.gcd_assoc, Nat.gcd_zero_left]
theorem gcdN_cons (n : Int) (ns : List Int) : gcdN (n :: ns) = Nat.gcd n.natAbs (gcdN ns) := by
  show List.foldl _ _ _ = _
  rw [List.foldl_cons, foldl_gcd, Nat.gcd_zero_left]
theorem gcdN_dvd : ∀ {ns : List Int} {n : Int}, n ∈ ns -> (gcdN ns : Int) ∣ n
  | m :: ns, n, h => by
    rw [gcdN_cons]
    rcases List.mem_cons.mp h with rfl | h
    . exact Int.ofNat_dvd_left.mpr (Nat.gcd_dvd_left _ _)
    . exact Int.dvd_trans (Int.natCast_dvd_natCast.mpr (Nat.gcd_dvd_right _ _)) (gcdN_dvd h)
theorem gcdN_zero : ∀ {ns : List Int}, gcdN ns = 0 -> ∀ n ∈ ns, n = 0
  | m :: ns, h, n, hn => by
    rw [gcdN_cons] at h
    obtain ⟨h1, h2⟩ := Nat.gcd_eq_zero_iff.mp h
    rcases List.mem_cons.mp hn with rfl | hn
    . omega
    . exact gcdN_zero h2 n hn
theorem gcdN_pos {ns : List Int} (h : ∃ n ∈ ns, n ≠ 0) : 0 < gcdN ns := by
  obtain ⟨n, hn, h0⟩ := h
  rcases Nat.eq_zero_or_pos (gcdN ns) with z | z
  . exact absurd (gcdN_zero z n hn) h0
  . exact z
theorem gcdN_mul (c : Int) (ns : List Int) : gcdN (ns.map (c * ·)) = c.natAbs * gcdN ns := by
  induction ns with
  | nil => simp [gcdN]
  | cons n ns ih => rw [List.map_cons, gcdN_cons, gcdN_cons, ih, Int.natAbs_mul, Nat.gcd_mul_left]
theorem gcdN_le {ns : List Int} {n : Int} (h : n ∈ ns) (h0 : n ≠ 0) : gcdN ns <= n.natAbs := Nat.le_of_dvd (by omega) (Int.ofNat_dvd_left.mp (gcdN_dvd h))
noncomputable def fst0 : List Int -> Int
  | [] => 0
  | x :: r => if x = 0 then fst0 r else x
theorem fst0_mul (c : Int) : ∀ ns : List Int, fst0 (ns.map (c * ·)) = c * fst0 ns
  | [] => by simp [fst0]
  | x :: r => by
    rw [List.map_cons, fst0, fst0, fst0_mul c r]
    by_cases hc : c = 0
    . subst hc; simp
    . by_cases hx : x = 0
      . simp [hx]
      . rw [if_neg (Int.mul_ne_zero hc hx), if_neg hx]
theorem fst0_ne : ∀ {ns : List Int}, (∃ n ∈ ns, n ≠ 0) -> fst0 ns ≠ 0
  | x :: r, ⟨n, hn, h0⟩ => by
    rw [fst0]
    split
    . rename_i hx
      rcases List.mem_cons.mp hn with rfl | hn
      . exact absurd hx h0
      . exact fst0_ne ⟨n, hn, h0⟩
    . assumption
noncomputable def unit (ns : List Int) : Int := if fst0 ns < 0 then -(gcdN ns : Int) else gcdN ns
noncomputable def pl (ns : List Int) : List Int := ns.map fun n => n / unit ns
theorem unit_ne {ns : List Int} (h : ∃ n ∈ ns, n ≠ 0) : unit ns ≠ 0 := by
  have := gcdN_pos h
  unfold unit; split <;> omega
theorem unit_dvd {ns : List Int} {n : Int} (h : n ∈ ns) : unit ns ∣ n := by
  unfold unit; split
  . exact Int.neg_dvd.mpr (gcdN_dvd h)
  . exact gcdN_dvd h
theorem pl_mul {ns : List Int} : (pl ns).map (unit ns * ·) = ns := by
  unfold pl
  rw [List.map_map]
  conv => rhs; rw [<- List.map_id ns]
  refine List.map_congr_left fun n hn => ?_
  show unit ns * (n / unit ns) = n
  exact Int.mul_ediv_cancel' (unit_dvd hn)
theorem unit_natAbs (ns : List Int) : (unit ns).natAbs = gcdN ns := by
  unfold unit; split <;> omega
theorem gcd_pl {ns : List Int} (h : ∃ n ∈ ns, n ≠ 0) : gcdN (pl ns) = 1 := by
  have e := gcdN_mul (unit ns) (pl ns)
  rw [pl_mul, unit_natAbs] at e
  have p := gcdN_pos h
  exact Nat.eq_of_mul_eq_mul_left p (by omega)
theorem fst_pl {ns : List Int} (h : ∃ n ∈ ns, n ≠ 0) : 0 < fst0 (pl ns) := by
  have e := fst0_mul (unit ns) (pl ns)
  rw [pl_mul] at e
  have p := gcdN_pos h
  have f := fst0_ne h
  by_cases hn : fst0 ns < 0
  . have u : unit ns = -(gcdN ns : Int) := if_pos hn
    rw [u] at e
    refine Int.not_le.mp fun z => ?_
    have : 0 <= -(gcdN ns : Int) * fst0 (pl ns) := Int.mul_nonneg_of_nonpos_of_nonpos (by omega) z
    omega
  . have u : unit ns = (gcdN ns : Int) := if_neg hn
    rw [u] at e
    refine Int.not_le.mp fun z => ?_
    have : (gcdN ns : Int) * fst0 (pl ns) <= 0 := Int.mul_nonpos_of_nonneg_of_nonpos (by omega) z
    omega
theorem nz_pl {ns : List Int} (h : ∃ n ∈ ns, n ≠ 0) : ∃ n ∈ pl ns, n ≠ 0 := by
  obtain ⟨n, hn, h0⟩ := h
  refine ⟨n / unit ns, List.mem_map.mpr ⟨n, hn, rfl⟩, fun z => h0 ?_⟩
  have := Int.mul_ediv_cancel' (unit_dvd hn)
  rw [z] at this; omega
theorem nz_mul {ns : List Int} {c : Int} (hc : c ≠ 0) (h : ∃ n ∈ ns, n ≠ 0) : ∃ n ∈ ns.map (c * ·), n ≠ 0 := by
  obtain ⟨n, hn, h0⟩ := h
  exact ⟨c * n, List.mem_map.mpr ⟨n, hn, rfl⟩, Int.mul_ne_zero hc h0⟩
theorem pl_of_mul {ms : List Int} {c : Int} (hc : c ≠ 0) (hg : gcdN ms = 1) (hf : 0 < fst0 ms) : pl (ms.map (c * ·)) = ms := by
  have u : unit (ms.map (c * ·)) = c := by
    unfold unit
    rw [gcdN_mul, hg, fst0_mul]
    by_cases h : c < 0
    . rw [if_pos (Int.mul_neg_of_neg_of_pos h hf)]; omega
    . rw [if_neg (by have := Int.mul_pos (show 0 < c by omega) hf; omega)]; omega
  unfold pl
  rw [u, List.map_map]
  conv => rhs; rw [<- List.map_id ms]
  refine List.map_congr_left fun n hn => ?_
  show c * n / c = n
  exact Int.mul_ediv_cancel_left n hc
theorem pl_scale {ns : List Int} {c : Int} (hc : c ≠ 0) (h : ∃ n ∈ ns, n ≠ 0) : pl (ns.map (c * ·)) = pl ns := by
  have e : ns.map (c * ·) = (pl ns).map ((c * unit ns) * ·) := by
    conv => lhs; rw [<- pl_mul (ns := ns)]
    rw [List.map_map]
    refine List.map_congr_left fun n _ => ?_
    show c * (unit ns * n) = c * unit ns * n
    rw [Int.mul_assoc]
  rw [e]
  exact pl_of_mul (Int.mul_ne_zero hc (unit_ne h)) (gcd_pl h) (fst_pl h)
theorem pl_length (ns : List Int) : (pl ns).length = ns.length := List.length_map _
theorem pl_le {ns : List Int} (h : ∃ n ∈ ns, n ≠ 0) {m : Int} (hm : m ∈ pl ns) : ∃ n ∈ ns, m.natAbs <= n.natAbs := by
  obtain ⟨n, hn, rfl⟩ := List.mem_map.mp hm
  refine ⟨n, hn, ?_⟩
  have e := Int.mul_ediv_cancel' (unit_dvd hn)
  have e2 := congrArg Int.natAbs e
  rw [Int.natAbs_mul, unit_natAbs] at e2
  have p := gcdN_pos h
  calc (n / unit ns).natAbs = 1 * (n / unit ns).natAbs := by omega
    _ <= gcdN ns * (n / unit ns).natAbs := Nat.mul_le_mul_right _ p
    _ = n.natAbs := e2
end Num
end
section
namespace Num
noncomputable def qm : List Int -> List Int -> List Int
  | [a, b, c, d], [e, f, g, h] => [a * e - b * f - c * g - d * h, a * f + b * e + c * h - d * g, a * g - b * h + c * e + d * f, a * h + b * g - c * f + d * e]
  | _, _ => []
noncomputable def cj : List Int -> List Int
  | [a, b, c, d] => [a, -b, -c, -d]
  | _ => []
noncomputable def nrm : List Int -> Int
  | [a, b, c, d] => a * a + b * b + c * c + d * d
  | _ => 0
theorem four_of {ns : List Int} (h : ns.length = 4) : ∃ a b c d, ns = [a, b, c, d] := by
  match ns, h with
  | [a, b, c, d], _ => exact ⟨a, b, c, d, rfl⟩
theorem euler (a b c d e f g h : Int) : (a * e - b * f - c * g - d * h) * (a * e - b * f - c * g - d * h) + (a * f + b * e + c * h - d * g) * (a * f + b * e + c * h - d * g) + (a * g - b * h + c * e + d * f) * (a * g - b * h + c * e + d * f) + (a * h + b * g - c * f + d * e) * (a * h + b * g - c * f + d * e) = (a * a + b * b + c * c + d * d) * (e * e + f * f + g * g + h * h) := by
  grind
theorem qm_len {ns ms : List Int} (h : ns.length = 4) (h2 : ms.length = 4) : (qm ns ms).length = 4 := by
  obtain ⟨a, b, c, d, rfl⟩ := four_of h
  obtain ⟨e, f, g, i, rfl⟩ := four_of h2
  rfl
theorem cj_len {ns : List Int} (h : ns.length = 4) : (cj ns).length = 4 := by
  obtain ⟨a, b, c, d, rfl⟩ := four_of h
  rfl
theorem nrm_qm {ns ms : List Int} (h : ns.length = 4) (h2 : ms.length = 4) : nrm (qm ns ms) = nrm ns * nrm ms := by
  obtain ⟨a, b, c, d, rfl⟩ := four_of h
  obtain ⟨e, f, g, i, rfl⟩ := four_of h2
  exact euler a b c d e f g i
theorem sq_nn (a : Int) : 0 <= a * a := by
  rcases Int.le_total 0 a with h | h
  . exact Int.mul_nonneg h h
  . exact Int.mul_nonneg_of_nonpos_of_nonpos h h
theorem sq_pos {a : Int} (h : a ≠ 0) : 0 < a * a := by
  have := sq_nn a
  have : a * a ≠ 0 := Int.mul_ne_zero h h
  omega
theorem nrm_pos {ns : List Int} (h : ns.length = 4) (hz : ∃ n ∈ ns, n ≠ 0) : 0 < nrm ns := by
  obtain ⟨a, b, c, d, rfl⟩ := four_of h
  obtain ⟨n, hn, h0⟩ := hz
  have ha := sq_nn a
  have hb := sq_nn b
  have hc := sq_nn c
  have hd := sq_nn d
  have hp := sq_pos h0
  show 0 < a * a + b * b + c * c + d * d
  simp only [List.mem_cons, List.mem_nil_iff, or_false] at hn
  rcases hn with rfl | rfl | rfl | rfl <;> omega
theorem nz_nrm {ns : List Int} (h : ns.length = 4) (hz : 0 < nrm ns) : ∃ n ∈ ns, n ≠ 0 := by
  obtain ⟨a, b, c, d, rfl⟩ := four_of h
  by_cases ha : a = 0
  . by_cases hb : b = 0
    . by_cases hc : c = 0
      . by_cases hd : d = 0
        . subst ha hb hc hd; exact absurd hz (by decide)
        . exact ⟨d, by simp, hd⟩
      . exact ⟨c, by simp, hc⟩
    . exact ⟨b, by simp, hb⟩
  . exact ⟨a, by simp, ha⟩
theorem nz_qm {ns ms : List Int} (h : ns.length = 4) (h2 : ms.length = 4) (hz : ∃ n ∈ ns, n ≠ 0) (hz2 : ∃ n ∈ ms, n ≠ 0) : ∃ n ∈ qm ns ms, n ≠ 0 := by
  refine nz_nrm (qm_len h h2) ?_
  rw [nrm_qm h h2]
  exact Int.mul_pos (nrm_pos h hz) (nrm_pos h2 hz2)
theorem nrm_cj {ns : List Int} (h : ns.length = 4) : nrm (cj ns) = nrm ns := by
  obtain ⟨a, b, c, d, rfl⟩ := four_of h
  show a * a + -b * -b + -c * -c + -d * -d = a * a + b * b + c * c + d * d
  grind
theorem nz_cj {ns : List Int} (h : ns.length = 4) (hz : ∃ n ∈ ns, n ≠ 0) : ∃ n ∈ cj ns, n ≠ 0 :=
  nz_nrm (cj_len h) (by rw [nrm_cj h]; exact nrm_pos h hz)
theorem qm_mulR {ns ms : List Int} {k : Int} (h : ns.length = 4) (h2 : ms.length = 4) : qm ns (ms.map (k * ·)) = (qm ns ms).map (k * ·) := by
  obtain ⟨a, b, c, d, rfl⟩ := four_of h
  obtain ⟨e, f, g, i, rfl⟩ := four_of h2
  simp only [List.map_cons, List.map_nil, qm]
  congr 1
  . grind
  congr 1
  . grind
  congr 1
  . grind
  congr 1
  . grind
theorem pl_qmR {ns ms : List Int} (h : ns.length = 4) (h2 : ms.length = 4) (hz : ∃ n ∈ ns, n ≠ 0) (hz2 : ∃ n ∈ ms, n ≠ 0) : pl (qm ns (pl ms)) = pl (qm ns ms) := by
  have hp : (pl ms).length = 4 := by rw [pl_length]; exact h2
  have e : qm ns ms = (qm ns (pl ms)).map (unit ms * ·) := by
    rw [<- qm_mulR h hp, pl_mul]
  rw [e, pl_scale (unit_ne hz2) (nz_qm h hp hz (nz_pl hz2))]
noncomputable def Bd (b : Nat) (ns : List Int) : Prop := ∀ n ∈ ns, n.natAbs <= b
theorem bd_qm {ns ms : List Int} {x y : Nat} (h : ns.length = 4) (h2 : ms.length = 4) (hx : Bd x ns) (hy : Bd y ms) : Bd (4 * (x * y)) (qm ns ms) := by
  obtain ⟨a, b, c, d, rfl⟩ := four_of h
  obtain ⟨e, f, g, i, rfl⟩ := four_of h2
  have q : ∀ {p r : Int}, p ∈ [a, b, c, d] -> r ∈ [e, f, g, i] -> (p * r).natAbs <= x * y := fun {p r} hp hr => by
    rw [Int.natAbs_mul]; exact Nat.mul_le_mul (hx p hp) (hy r hr)
  have ad : ∀ {u v : Int} {m n : Nat}, u.natAbs <= m -> v.natAbs <= n -> (u + v).natAbs <= m + n := fun hu hv => Nat.le_trans (Int.natAbs_add_le _ _) (Nat.add_le_add hu hv)
  have sb : ∀ {u v : Int} {m n : Nat}, u.natAbs <= m -> v.natAbs <= n -> (u - v).natAbs <= m + n := fun hu hv => Nat.le_trans (Int.natAbs_sub_le _ _) (Nat.add_le_add hu hv)
  have e4 : 4 * (x * y) = x * y + x * y + x * y + x * y := by
    rw [show 4 = 1 + 1 + 1 + 1 from rfl, Nat.add_mul, Nat.add_mul, Nat.add_mul, Nat.one_mul]
  have m1 : a ∈ [a, b, c, d] := .head _
  have m2 : b ∈ [a, b, c, d] := .tail _ (.head _)
  have m3 : c ∈ [a, b, c, d] := .tail _ (.tail _ (.head _))
  have m4 : d ∈ [a, b, c, d] := .tail _ (.tail _ (.tail _ (.head _)))
  have k1 : e ∈ [e, f, g, i] := .head _
  have k2 : f ∈ [e, f, g, i] := .tail _ (.head _)
  have k3 : g ∈ [e, f, g, i] := .tail _ (.tail _ (.head _))
  have k4 : i ∈ [e, f, g, i] := .tail _ (.tail _ (.tail _ (.head _)))
  intro n hn
  rw [e4]
  simp only [qm, List.mem_cons, List.mem_nil_iff, or_false] at hn
  rcases hn with rfl | rfl | rfl | rfl
  . exact sb (sb (sb (q m1 k1) (q m2 k2)) (q m3 k3)) (q m4 k4)
  . exact sb (ad (ad (q m1 k2) (q m2 k1)) (q m3 k4)) (q m4 k3)
  . exact ad (ad (sb (q m1 k3) (q m2 k4)) (q m3 k1)) (q m4 k2)
  . exact ad (sb (ad (q m1 k4) (q m2 k3)) (q m3 k2)) (q m4 k1)
theorem bd_cj {ns : List Int} {x : Nat} (h : ns.length = 4) (hx : Bd x ns) : Bd x (cj ns) := by
  obtain ⟨a, b, c, d, rfl⟩ := four_of h
  intro n hn
  simp only [cj, List.mem_cons, List.mem_nil_iff, or_false] at hn
  have := hx a (by simp); have := hx b (by simp); have := hx c (by simp); have := hx d (by simp)
  rcases hn with rfl | rfl | rfl | rfl <;> omega
theorem bd_pl {ns : List Int} {x : Nat} (hz : ∃ n ∈ ns, n ≠ 0) (hx : Bd x ns) : Bd x (pl ns) := fun m hm => let ⟨n, hn, hle⟩ := pl_le hz hm; Nat.le_trans hle (hx n hn)
end Num
end
section
namespace K0
open PySem L2 Num
section
variable {K : PySem.W.Frag}
noncomputable def spCD (K : PySem.W.Frag) : Sp := fun vs H Q _ => ∃ (a : Addr) (ns : List Int), vs = [.ref a] /\ SqT K H a (ns.map V.int) /\ Q (.int (gcdN ns)) H
theorem gcd_step {a b : Int} (ha : 0 <= a) (hb : 0 < b) : Nat.gcd b.toNat (a % b).toNat = Nat.gcd a.toNat b.toNat := by
  have h1 : (a % b).toNat = a.toNat % b.toNat := by
    have e := Int.toNat_emod ha (Int.le_of_lt hb)
    exact e
  rw [h1, Nat.gcd_comm, <- Nat.gcd_rec, Nat.gcd_comm]
noncomputable def Sm (ns : List Int) : Prop := ∀ n ∈ ns, n.natAbs < 2 ^ 9000
noncomputable def spT (K : PySem.W.Frag) (pre : List Int -> Prop) (fn : List Int -> List Int) : Sp := fun vs H Q _ => ∃ (a : Addr) (ns : List Int), vs = [.ref a] /\ SqT K H a (ns.map V.int) /\ ns.length <= 1000 /\ pre ns /\
  ∀ (r : Addr) (H' : Hp), Same H H' -> H' r = some (.tup ((fn ns).map V.int)) -> Q (.ref r) H'
noncomputable def red (ns : List Int) : List Int := ns.map fun n => n / (gcdN ns : Int)
theorem gcd_small {ns : List Int} (h : ∃ n ∈ ns, n ≠ 0) (hs : Sm ns) : ((gcdN ns : Nat) : Int).natAbs.log2 < 9000 := by
  obtain ⟨n, hn, h0⟩ := h
  have h1 := gcdN_le hn h0
  have h2 := hs n hn
  have h3 : ((gcdN ns : Nat) : Int).natAbs < 2 ^ 9000 := by
    rw [Int.natAbs_natCast]
    exact Nat.lt_of_le_of_lt h1 h2
  exact (Nat.log2_lt (by have := gcdN_pos ⟨n, hn, h0⟩; omega)).mpr h3
noncomputable def sop (ns ms : List Int) : Int := (List.zipWith (· * ·) ns ms).sum
theorem mulOk_of {i j : Int} (hi : i.natAbs < 2 ^ 100000) (hj : j.natAbs < 2 ^ 100000) : IntMulOk i j := by
  have b : ∀ k : Int, k.natAbs < 2 ^ 100000 -> Builtin.Int.intBits k <= 2 ^ 20 := fun k hk => by
    unfold Builtin.Int.intBits
    split
    . exact Nat.zero_le _
    . rename_i h0
      have hne : k.natAbs ≠ 0 := by
        intro z
        apply h0
        have : k = 0 := by omega
        simp [this]
      have := (Nat.log2_lt hne).mpr hk
      omega
  exact IntMulOk.of_bits (b i hi) (b j hj)
theorem pow_lift {n : Nat} (h : n < 2 ^ 9000) : n < 2 ^ 100000 := Nat.lt_of_lt_of_le h (Nat.pow_le_pow_right (by decide) (by decide))
noncomputable def spSop (K : PySem.W.Frag) : Sp := fun vs H Q _ => ∃ (a b : Addr) (ns ms : List Int), vs = [.ref a, .ref b] /\ SqT K H a (ns.map V.int) /\ SqT K H b (ms.map V.int) /\ ns.length <= 1000 /\ ms.length = ns.length /\ Sm ns /\ Sm ms /\
  ∀ (H' : Hp), Same H H' -> Q (.int (sop ns ms)) H'
noncomputable def spSize (K : PySem.W.Frag) : Sp := fun vs H Q _ => ∃ (a : Addr) (ns : List Int), vs = [.ref a] /\ SqT K H a (ns.map V.int) /\ ns.length <= 1000 /\ Sm ns /\ ∀ (H' : Hp), Same H H' -> Q (.int (sop ns ns)) H'
noncomputable def Pu (H : Hp) (p : Addr) : Prop := ∃ a b : Int, H p = some (.lst [.int a, .int b])
noncomputable def spDraw : Sp := fun vs H Q _ => ∃ (p : Addr) (m : Int), vs = [.ref p, .int m] /\ Pu H p /\ 0 < m /\ m < 2 ^ 200 /\ ∀ (d : Int) (H' : Hp), 0 <= d -> d < m -> SB p H H' -> Pu H' p -> Q (.int d) H'
noncomputable def spPurse (K : PySem.W.Frag) : Sp := fun vs H Q _ => ∃ (a : Addr) (ns : List Int), vs = [.ref a] /\ SqL K H a (ns.map V.int) /\ ns.length <= 63 /\ (∀ v ∈ ns, Builtin.Int.intBits v <= 2 ^ 20) /\ ∀ (p : Addr) (H' : Hp), H p = none -> Same H H' -> Pu H' p -> Q (.ref p) H'
theorem cut63 {ns : List Int} (h : ns.length <= 63) : cutV (ns.map V.int) none (some 63) = ns.map V.int := by
  have h2 : HT.sIx (ns.map V.int).length (ns.map V.int).length (some 63) = (ns.map V.int).length := by
    rw [List.length_map]
    unfold HT.sIx
    dsimp only
    rw [if_neg (by decide)]
    omega
  unfold cutV
  rw [h2]
  show List.take ((ns.map V.int).length - 0) (List.drop 0 (ns.map V.int)) = _
  rw [List.drop_zero, Nat.sub_zero, List.take_length]
theorem at_draw {ms : List Int} {d : Int} (h0 : 0 <= d) (h1 : d < (ms.length : Int)) : ∃ m ∈ ms, atI (ms.map V.int) d = some (.int m) := by
  obtain ⟨j, rfl⟩ := Int.eq_ofNat_of_zero_le h0
  have hj : j < ms.length := by omega
  refine ⟨ms[j], List.getElem_mem hj, ?_⟩
  exact atI_nat (by rw [List.getElem?_map]; simp [hj])
theorem Pu.same {H H' : Hp} {p : Addr} (h : Pu H p) (s : Same H H') : Pu H' p := by
  obtain ⟨a, b, e⟩ := h; exact ⟨a, b, s _ _ e⟩
noncomputable def spDiv : Sp := fun vs H Q _ => ∃ (a b : Int), vs = [.int a, .int b] /\ Q (.int ((Nat.gcd a.natAbs b.natAbs : Nat) : Int)) H
noncomputable def spLaw (K : PySem.W.Frag) : Sp := fun vs H Q _ => ∃ (a : Addr) (ns : List Int), vs = [.ref a] /\ SqL K H a (ns.map V.int) /\ ns.length <= 63 /\ (∀ v ∈ ns, Builtin.Int.intBits v <= 2 ^ 20) /\ ∀ (H' : Hp), Q (.bl true) H'
theorem sm_bd {ns : List Int} {b : Nat} (h : Bd b ns) (hb : b < 2 ^ 9000) : Sm ns := fun n hn => Nat.lt_of_le_of_lt (h n hn) hb
theorem bd_mono {ns : List Int} {a b : Nat} (h : Bd a ns) (hab : a <= b) : Bd b ns := fun n hn => Nat.le_trans (h n hn) hab
end
end K0
end
section
namespace K0
open PySem L2 Num
theorem red_scale {ns : List Int} {c : Int} (hc : 0 < c) : red (ns.map (c * ·)) = red ns := by
  unfold red
  rw [List.map_map, gcdN_mul]
  refine List.map_congr_left fun n _ => ?_
  show c * n / ((c.natAbs * gcdN ns : Nat) : Int) = n / (gcdN ns : Int)
  rw [Int.natCast_mul, Int.natAbs_of_nonneg (Int.le_of_lt hc), Int.mul_ediv_mul_of_pos _ _ hc]
noncomputable def fr (t b : Int) : List Int := red [t, b]
theorem fr_eq {t b t' b' : Int} (hb : 0 < b) (hb' : 0 < b') (h : t * b' = t' * b) : fr t b = fr t' b' := by
  unfold fr
  rw [<- red_scale (ns := [t, b]) hb', <- red_scale (ns := [t', b']) hb]
  simp only [List.map_cons, List.map_nil]
  rw [Int.mul_comm b' t, h, Int.mul_comm b t', Int.mul_comm b' b]
theorem fr_two (t b : Int) : ∃ t' b', fr t b = [t', b'] := ⟨_, _, rfl⟩
theorem fr_pos {t b t' b' : Int} (hb : 0 < b) (h : fr t b = [t', b']) : 0 < b' /\ b'.natAbs <= b.natAbs /\ t'.natAbs <= t.natAbs /\ t * b' = t' * b /\ Nat.gcd t'.natAbs b'.natAbs = 1 := by
  have hg : 0 < gcdN [t, b] := gcdN_pos ⟨b, by simp, by omega⟩
  have d1 : (gcdN [t, b] : Int) ∣ t := gcdN_dvd (by simp)
  have d2 : (gcdN [t, b] : Int) ∣ b := gcdN_dvd (by simp)
  have e1 : t' = t / (gcdN [t, b] : Int) := by injection h with h1 _; exact h1.symm
  have e2 : b' = b / (gcdN [t, b] : Int) := by injection h with _ h2; injection h2 with h2 _; exact h2.symm
  obtain ⟨u, hu⟩ := d1
  obtain ⟨v, hv⟩ := d2
  have hgi : (0 : Int) < (gcdN [t, b] : Int) := by omega
  have eg : gcdN [t, b] = gcdN [t, b] * Nat.gcd u.natAbs v.natAbs := by
    have : gcdN ([u, v].map ((gcdN [t, b] : Int) * ·)) = gcdN [t, b] * gcdN [u, v] := by rw [gcdN_mul, Int.natAbs_natCast]
    rw [List.map_cons, List.map_cons, List.map_nil, <- hu, <- hv] at this
    have e : gcdN [u, v] = Nat.gcd u.natAbs v.natAbs := by rw [gcdN_cons, gcdN_cons]; simp [gcdN]
    rw [e] at this
    exact this
  generalize gcdN [t, b] = g at *
  have eu : t' = u := by rw [e1, hu, Int.mul_ediv_cancel_left _ (by omega)]
  have ev : b' = v := by rw [e2, hv, Int.mul_ediv_cancel_left _ (by omega)]
  subst eu ev
  have vp : 0 < b' := by
    rcases Int.lt_trichotomy b' 0 with z | z | z
    . have := Int.mul_neg_of_pos_of_neg hgi z; omega
    . subst z; simp at hv; omega
    . exact z
  refine ⟨vp, ?_, ?_, ?_, ?_⟩
  . rw [hv, Int.natAbs_mul, Int.natAbs_natCast]; exact Nat.le_mul_of_pos_left _ hg
  . rw [hu, Int.natAbs_mul, Int.natAbs_natCast]; exact Nat.le_mul_of_pos_left _ hg
  . rw [hu, hv, Int.mul_assoc, Int.mul_left_comm]
  . have : g * 1 = g * Nat.gcd t'.natAbs b'.natAbs := by omega
    exact (Nat.eq_of_mul_eq_mul_left hg this).symm
structure Pt (H : Hp) (p : Addr) (f1 f2 f3 : List Int) : Prop where
  ex : ∃ p1 p2 p3, H p = some (.tup [.ref p1, .ref p2, .ref p3]) /\ H p1 = some (.tup (f1.map V.int)) /\ H p2 = some (.tup (f2.map V.int)) /\ H p3 = some (.tup (f3.map V.int))
noncomputable def Bt (n : Int) (k : Nat) : Prop := n.natAbs <= 2 ^ k
theorem Bt.mul {a b : Int} {x y : Nat} (ha : Bt a x) (hb : Bt b y) : Bt (a * b) (x + y) := by
  unfold Bt at *
  rw [Int.natAbs_mul, Nat.pow_add]; exact Nat.mul_le_mul ha hb
theorem Bt.add {a b : Int} {x : Nat} (ha : Bt a x) (hb : Bt b x) : Bt (a + b) (x + 1) := by
  unfold Bt at *
  rw [Nat.pow_succ, Nat.mul_two]
  exact Nat.le_trans (Int.natAbs_add_le a b) (Nat.add_le_add ha hb)
theorem Bt.sub {a b : Int} {x : Nat} (ha : Bt a x) (hb : Bt b x) : Bt (a - b) (x + 1) := by
  unfold Bt at *
  rw [Nat.pow_succ, Nat.mul_two]
  exact Nat.le_trans (Int.natAbs_sub_le a b) (Nat.add_le_add ha hb)
theorem Bt.up {a : Int} {x y : Nat} (h : Bt a x) (hxy : x <= y) : Bt a y := Nat.le_trans h (Nat.pow_le_pow_right (by decide) hxy)
theorem Bt.lt {a : Int} {x : Nat} (h : Bt a x) (hx : x < 9000) : a.natAbs < 2 ^ 9000 := Nat.lt_of_le_of_lt h (Nat.pow_lt_pow_right (by decide) hx)
theorem Bt.mulOk {a b : Int} {x y : Nat} (ha : Bt a x) (hb : Bt b y) (hx : x < 9000 := by decide) (hy : y < 9000 := by decide) : IntMulOk a b := mulOk_of (pow_lift (ha.lt hx)) (pow_lift (hb.lt hy))
theorem Bt.log {a : Int} {x : Nat} (h : Bt a x) (h0 : a ≠ 0) (hx : x < 9000 := by decide) : a.natAbs.log2 < 9000 := (Nat.log2_lt (by omega)).mpr (h.lt hx)
theorem sm2 {a b : Int} {x : Nat} (ha : Bt a x) (hb : Bt b x) (hx : x < 9000 := by decide) : Sm [a, b] := fun n hn => by
  simp only [List.mem_cons, List.mem_nil_iff, or_false] at hn
  rcases hn with rfl | rfl
  . exact ha.lt hx
  . exact hb.lt hx
noncomputable def rw1 (a b c d : Int) : List Int := [a * a + b * b - c * c - d * d, 2 * (b * c - a * d), 2 * (b * d + a * c)]
noncomputable def rw2 (a b c d : Int) : List Int := [2 * (b * c + a * d), a * a - b * b + c * c - d * d, 2 * (c * d - a * b)]
noncomputable def rw3 (a b c d : Int) : List Int := [2 * (b * d - a * c), 2 * (c * d + a * b), a * a - b * b - c * c + d * d]
theorem sop4 (a b c d : Int) : sop [a, b, c, d] [a, b, c, d] = nrm [a, b, c, d] := by
  simp only [sop, nrm, List.zipWith_cons_cons, List.zipWith_nil_right, List.sum_cons, List.sum_nil]; omega
theorem two1 : Bt 2 1 := by unfold Bt; decide
theorem gcdN2 (t b : Int) : gcdN [t, b] = Nat.gcd t.natAbs b.natAbs := by rw [gcdN_cons, gcdN_cons]; simp [gcdN]
noncomputable def ptD (f1 f2 f3 : List Int) : PySem.W.Dat := .tuple [.tuple (f1.map .int), .tuple (f2.map .int), .tuple (f3.map .int)]
end K0
end
section
namespace K0
open PySem L2 Num
noncomputable def qv (t b : Int) : Rat := (t : Rat) / (b : Rat)
theorem cast_ne {b : Int} (h : b ≠ 0) : (b : Rat) ≠ 0 := fun z => h (by exact_mod_cast z)
theorem fr_qv {t b t' b' : Int} (hb : 0 < b) (hb' : 0 < b') (h : qv t b = qv t' b') : fr t b = fr t' b' := by
  refine fr_eq hb hb' ?_
  have h1 := cast_ne (show b ≠ 0 by omega)
  have h2 := cast_ne (show b' ≠ 0 by omega)
  unfold qv at h
  have : (t : Rat) * b' = t' * b := by grind
  exact_mod_cast this
theorem qv_of {t b t' b' : Int} (hb : b ≠ 0) (hb' : b' ≠ 0) (h : t * b' = t' * b) : qv t b = qv t' b' := by
  have h1 := cast_ne hb
  have h2 := cast_ne hb'
  unfold qv
  have : (t : Rat) * b' = t' * b := by exact_mod_cast h
  grind
noncomputable def R1 (a b c d x y z : Rat) : Rat := (a * a + b * b - c * c - d * d) * x + 2 * (b * c - a * d) * y + 2 * (b * d + a * c) * z
noncomputable def R2 (a b c d x y z : Rat) : Rat := 2 * (b * c + a * d) * x + (a * a - b * b + c * c - d * d) * y + 2 * (c * d - a * b) * z
noncomputable def R3 (a b c d x y z : Rat) : Rat := 2 * (b * d - a * c) * x + 2 * (c * d + a * b) * y + (a * a - b * b - c * c + d * d) * z
noncomputable def N4 (a b c d : Rat) : Rat := a * a + b * b + c * c + d * d
structure Lo (k : Nat) (t b : Int) (x : Rat) : Prop where
  pos : 0 < b
  low : Nat.gcd t.natAbs b.natAbs = 1
  bt : Bt t k
  bb : Bt b k
  val : qv t b = x
theorem Lo.fr {k : Nat} {t b : Int} {x : Rat} (h : Lo k t b x) : fr t b = [t, b] := by
  unfold K0.fr red
  rw [gcdN2, h.low]
  simp
theorem Lo.eq {k k' : Nat} {t b t' b' : Int} {x : Rat} (h : Lo k t b x) (h' : Lo k' t' b' x) : [t, b] = [t', b'] := by
  rw [<- h.fr, <- h'.fr]
  exact fr_qv h.pos h'.pos (by rw [h.val, h'.val])
theorem Lo.of {k : Nat} {T B t b : Int} {x : Rat} (hB : 0 < B) (hT : Bt T k) (hb : Bt B k) (h : K0.fr T B = [t, b]) (hv : qv T B = x) : Lo k t b x := by
  obtain ⟨h1, h2, h3, h4, h5⟩ := fr_pos hB h
  refine ⟨h1, h5, Nat.le_trans h3 hT, Nat.le_trans h2 hb, ?_⟩
  rw [<- hv]
  exact (qv_of (by omega) (by omega) h4).symm
theorem rows_btG {m : Nat} {a b c d : Int} (h : Bd (2 ^ m) [a, b, c, d]) : (∀ n ∈ rw1 a b c d, Bt n (2 * m + 3)) /\ (∀ n ∈ rw2 a b c d, Bt n (2 * m + 3)) /\ (∀ n ∈ rw3 a b c d, Bt n (2 * m + 3)) := by
  have ha : Bt a m := h a (by simp)
  have hb : Bt b m := h b (by simp)
  have hc : Bt c m := h c (by simp)
  have hd : Bt d m := h d (by simp)
  have q : ∀ {x y : Int}, Bt x m -> Bt y m -> Bt (x * y) (2 * m) := fun hx hy => (hx.mul hy).up (by omega)
  have s1 : ∀ {w x y z : Int}, Bt w (2 * m) -> Bt x (2 * m) -> Bt y (2 * m) -> Bt z (2 * m) -> Bt (w + x - y - z) (2 * m + 3) := fun hw hx hy hz => ((hw.add hx).sub (hy.up (by omega))).sub (hz.up (by omega))
  have s2 : ∀ {w x y z : Int}, Bt w (2 * m) -> Bt x (2 * m) -> Bt y (2 * m) -> Bt z (2 * m) -> Bt (w - x + y - z) (2 * m + 3) := fun hw hx hy hz => ((hw.sub hx).add (hy.up (by omega))).sub (hz.up (by omega))
  have s3 : ∀ {w x y z : Int}, Bt w (2 * m) -> Bt x (2 * m) -> Bt y (2 * m) -> Bt z (2 * m) -> Bt (w - x - y + z) (2 * m + 3) := fun hw hx hy hz => ((hw.sub hx).sub (hy.up (by omega))).add (hz.up (by omega))
  have d1 : ∀ {x y : Int}, Bt x (2 * m) -> Bt y (2 * m) -> Bt (2 * (x - y)) (2 * m + 3) := fun hx hy => (two1.mul (hx.sub hy)).up (by omega)
  have d2 : ∀ {x y : Int}, Bt x (2 * m) -> Bt y (2 * m) -> Bt (2 * (x + y)) (2 * m + 3) := fun hx hy => (two1.mul (hx.add hy)).up (by omega)
  refine ⟨fun n hn => ?_, fun n hn => ?_, fun n hn => ?_⟩
  . simp only [rw1, List.mem_cons, List.mem_nil_iff, or_false] at hn
    rcases hn with rfl | rfl | rfl
    . exact s1 (q ha ha) (q hb hb) (q hc hc) (q hd hd)
    . exact d1 (q hb hc) (q ha hd)
    . exact d2 (q hb hd) (q ha hc)
  . simp only [rw2, List.mem_cons, List.mem_nil_iff, or_false] at hn
    rcases hn with rfl | rfl | rfl
    . exact d2 (q hb hc) (q ha hd)
    . exact s2 (q ha ha) (q hb hb) (q hc hc) (q hd hd)
    . exact d1 (q hc hd) (q ha hb)
  . simp only [rw3, List.mem_cons, List.mem_nil_iff, or_false] at hn
    rcases hn with rfl | rfl | rfl
    . exact d1 (q hb hd) (q ha hc)
    . exact d2 (q hc hd) (q ha hb)
    . exact s3 (q ha ha) (q hb hb) (q hc hc) (q hd hd)
theorem nrm_btG {m : Nat} {a b c d : Int} (h : Bd (2 ^ m) [a, b, c, d]) : Bt (nrm [a, b, c, d]) (2 * m + 3) := by
  have ha : Bt a m := h a (by simp)
  have hb : Bt b m := h b (by simp)
  have hc : Bt c m := h c (by simp)
  have hd : Bt d m := h d (by simp)
  have q : ∀ {x y : Int}, Bt x m -> Bt y m -> Bt (x * y) (2 * m) := fun hx hy => (hx.mul hy).up (by omega)
  exact (((q ha ha).add (q hb hb)).add ((q hc hc).up (by omega))).add ((q hd hd).up (by omega))
end K0
end
section
namespace K0
open PySem L2 Num
structure PC (H : Hp) (r : Addr) (c : Nat) (x y z : Rat) : Prop where
  ex : ∃ t1 b1 t2 b2 t3 b3, Pt H r [t1, b1] [t2, b2] [t3, b3] /\ Lo c t1 b1 x /\ Lo c t2 b2 y /\ Lo c t3 b3 z /\ ∃ C T1 T2 T3 : Int, 0 < C /\ Bt C c /\ Bt T1 c /\ Bt T2 c /\ Bt T3 c /\ qv T1 C = x /\ qv T2 C = y /\ qv T3 C = z
noncomputable def bk (n : List Int) : List Int := pl (cj n)
end K0
end
section
namespace K0
open PySem L2 Num
theorem okL {i j : Int} (h1 : -(2 ^ 64) < i) (h2 : i < 2 ^ 64) : IntMulOk i j := CMul.ok (.inl ⟨h1, h2⟩)
theorem okR {i j : Int} (h1 : -(2 ^ 64) < j) (h2 : j < 2 ^ 64) : IntMulOk i j := CMul.ok (.inr ⟨h1, h2⟩)
end K0
end
section
namespace L2
open PySem PySem.Spec PyProof.Rows
end L2
namespace K0
open PySem L2 Num
open PySem.W (Dat)
noncomputable def rs (ns : List Int) : List Int := match ns with | [a, _, _, _] => fr (a * a) (nrm ns) | _ => []
theorem rs_scale {ns : List Int} {u : Int} (h : ns.length = 4) (hz : ∃ n ∈ ns, n ≠ 0) (hu : u ≠ 0) : rs (ns.map (u * ·)) = rs ns := by
  have hz2 := nz_mul hu hz
  obtain ⟨a, b, c, d, rfl⟩ := four_of h
  have p1 := nrm_pos (ns := [a, b, c, d]) rfl hz
  have p2 := nrm_pos (ns := [a, b, c, d].map (u * ·)) rfl hz2
  simp only [List.map_cons, List.map_nil] at p2 ⊢
  show fr (u * a * (u * a)) (nrm [u * a, u * b, u * c, u * d]) = fr (a * a) (nrm [a, b, c, d])
  refine fr_eq p2 p1 ?_
  unfold nrm
  grind
theorem rs_pl {ns : List Int} (h : ns.length = 4) (hz : ∃ n ∈ ns, n ≠ 0) : rs (pl ns) = rs ns := by
  have e := rs_scale (ns := pl ns) (u := unit ns) (by rw [pl_length]; exact h) (nz_pl hz) (unit_ne hz)
  rw [pl_mul] at e
  exact e.symm
noncomputable def ps (k l : Int) : List Int := [k / unit [l, k], l / unit [l, k]]
end K0
end
section
namespace D
open PySem L2 K0
open PySem.W (Dat)
noncomputable def SqN (N : Addr -> Prop) (K : PySem.W.Frag) (H : Hp) (a : Addr) (xs : List V) : Prop := (N a /\ Rd H a (.lst xs)) \/ SqL K (fun _ => none) a xs
theorem SqN.sq {N : Addr -> Prop} {K : PySem.W.Frag} {H : Hp} {a : Addr} {xs : List V} (h : SqN N K H a xs) : SqL K H a xs := by
  rcases h with ⟨_, h⟩ | (h | ⟨o, h⟩) | h
  . exact .inl h
  . cases h
  . cases h
  . exact .inr h
mutual
inductive Dz (N : Addr -> Prop) (K : PySem.W.Frag) (H : Hp) : V -> Dat -> Prop
  | none : Dz N K H .non .none
  | bool (b : Bool) : Dz N K H (.bl b) (.bool b)
  | int (i : Int) : Dz N K H (.int i) (.int i)
  | str (x : Str) : Dz N K H (.str x) (.str x)
  | tup {a : Addr} {xs : List V} {ds : List Dat} : SqT K H a xs -> Dzs N K H xs ds -> Dz N K H (.ref a) (.tuple ds)
  | lst {a : Addr} {xs : List V} {ds : List Dat} : SqN N K H a xs -> Dzs N K H xs ds -> Dz N K H (.ref a) (.list ds)
inductive Dzs (N : Addr -> Prop) (K : PySem.W.Frag) (H : Hp) : List V -> List Dat -> Prop
  | nil : Dzs N K H [] []
  | cons {x : V} {d : Dat} {xs : List V} {ds : List Dat} : Dz N K H x d -> Dzs N K H xs ds -> Dzs N K H (x :: xs) (d :: ds)
end
structure Ev (W : Addr -> Prop) (H H' : Hp) : Prop where
  keep : ∀ b o, ¬ W b -> H b = some o -> H' b = some o
  tm : Tm H H'
theorem Ev.refl {W : Addr -> Prop} {H : Hp} : Ev W H H := ⟨fun _ _ _ h => h, Tm.refl _⟩
theorem Ev.trans {W : Addr -> Prop} {H H1 H2 : Hp} (a : Ev W H H1) (b : Ev W H1 H2) : Ev W H H2 := ⟨fun c o n h => b.keep c o n (a.keep c o n h), a.tm.trans b.tm⟩
theorem Ev.of {W : Addr -> Prop} {H H' : Hp} (s : Same H H') : Ev W H H' := ⟨fun c o _ h => s c o h, s.tm⟩
theorem Ev.mono {W W' : Addr -> Prop} {H H' : Hp} (a : Ev W H H') (m : ∀ b, W b -> W' b) : Ev W' H H' := ⟨fun c o n h => a.keep c o (fun z => n (m c z)) h, a.tm⟩
structure Own where
  R : (Addr -> Prop) -> PySem.W.Frag -> Hp -> Addr -> List Addr -> Prop
  ev : ∀ {N W : Addr -> Prop} {K : PySem.W.Frag} {H H' : Hp} {a : Addr} {l : List Addr}, R N K H a l -> Ev W H H' -> (∀ a, N a -> ¬ W a) -> (∀ b o, b ∈ l -> H b = some o -> H' b = some o) -> R N K H' a l
  wide : ∀ {N N' : Addr -> Prop} {K : PySem.W.Frag} {H : Hp} {a : Addr} {l : List Addr}, R N K H a l -> (∀ a o, N a -> H a = some o -> N' a) -> R N' K H a l
  al : ∀ {N : Addr -> Prop} {K : PySem.W.Frag} {H : Hp} {a : Addr} {l : List Addr}, R N K H a l -> ∀ b, b ∈ l -> ∃ o, H b = some o
inductive Sl where
  | un | dat (d : Dat) | pu | own (ds : List Dat) | vw (ds : List Dat) | dt (o : Own)
section
variable {N N' : Addr -> Prop} {K : PySem.W.Frag} {H H' : Hp}
mutual
theorem Dz.ev {W : Addr -> Prop} (e : Ev W H H') (nw : ∀ a, N a -> ¬ W a) : ∀ {v : V} {d : Dat}, Dz N K H v d -> Dz N K H' v d
  | _, _, .none => .none
  | _, _, .bool b => .bool b
  | _, _, .int i => .int i
  | _, _, .str x => .str x
  | _, _, .tup h r => .tup (e.tm _ _ _ h) (Dzs.ev e nw r)
  | _, _, .lst h r => .lst (by
      rcases h with ⟨n, h | ⟨o, h⟩⟩ | h
      . exact .inl ⟨n, .inl (e.keep _ _ (nw _ n) h)⟩
      . exact .inl ⟨n, .inr ⟨o, e.keep _ _ (nw _ n) h⟩⟩
      . exact .inr h) (Dzs.ev e nw r)
theorem Dzs.ev {W : Addr -> Prop} (e : Ev W H H') (nw : ∀ a, N a -> ¬ W a) : ∀ {v : List V} {d : List Dat}, Dzs N K H v d -> Dzs N K H' v d
  | _, _, .nil => .nil
  | _, _, .cons h r => .cons (Dz.ev e nw h) (Dzs.ev e nw r)
end
mutual
theorem Dz.mono (m : ∀ a, N a -> N' a) : ∀ {v : V} {d : Dat}, Dz N K H v d -> Dz N' K H v d
  | _, _, .none => .none
  | _, _, .bool b => .bool b
  | _, _, .int i => .int i
  | _, _, .str x => .str x
  | _, _, .tup h r => .tup h (Dzs.mono m r)
  | _, _, .lst h r => .lst (h.elim (fun z => .inl ⟨m _ z.1, z.2⟩) .inr) (Dzs.mono m r)
theorem Dzs.mono (m : ∀ a, N a -> N' a) : ∀ {v : List V} {d : List Dat}, Dzs N K H v d -> Dzs N' K H v d
  | _, _, .nil => .nil
  | _, _, .cons h r => .cons (Dz.mono m h) (Dzs.mono m r)
end
mutual
theorem Dz.is : ∀ {v : V} {d : Dat}, Dz N K H v d -> Is K H v d
  | _, _, .none => .none
  | _, _, .bool b => .bool b
  | _, _, .int i => .int i
  | _, _, .str x => .str x
  | _, _, .tup h r => .tup h (Dzs.is r)
  | _, _, .lst h r => .lst h.sq (Dzs.is r)
theorem Dzs.is : ∀ {v : List V} {d : List Dat}, Dzs N K H v d -> Iss K H v d
  | _, _, .nil => .nil
  | _, _, .cons h r => .cons (Dz.is h) (Dzs.is r)
end
theorem Dzs.len : ∀ {v : List V} {d : List Dat}, Dzs N K H v d -> v.length = d.length
  | _, _, .nil => rfl
  | _, _, .cons _ r => by rw [List.length_cons, List.length_cons, Dzs.len r]
theorem Dzs.app : ∀ {v v' : List V} {d d' : List Dat}, Dzs N K H v d -> Dzs N K H v' d' -> Dzs N K H (v ++ v') (d ++ d')
  | _, _, _, _, .nil, h => h
  | _, _, _, _, .cons a r, h => .cons a (Dzs.app r h)
theorem Dzs.get : ∀ {v : List V} {d : List Dat} {i : Nat} {e : Dat}, Dzs N K H v d -> d[i]? = some e -> ∃ x, v[i]? = some x /\ Dz N K H x e
  | _, _, _, _, .nil, h => by simp at h
  | _, _, 0, _, .cons a r, h => by simp at h; subst h; exact ⟨_, rfl, a⟩
  | _, _, i + 1, e, .cons a r, h => by
    obtain ⟨x, q, z⟩ := Dzs.get (i := i) r (by simpa using h)
    exact ⟨x, by simpa using q, z⟩
theorem Dzs.ints (ns : List Int) : Dzs N K H (ns.map V.int) (ns.map Dat.int) := by
  induction ns with
  | nil => exact .nil
  | cons n ns ih => exact .cons (.int n) ih
theorem Dzs.inv : ∀ {vs : List V} {ns : List Int}, Dzs N K H vs (ns.map Dat.int) -> vs = ns.map V.int
  | _, [], h => by cases h; rfl
  | _, n :: ns, h => by
    cases h with
    | cons a r => cases a; rw [Dzs.inv r]; rfl
end
mutual
noncomputable def noL : Dat -> Bool
  | .tuple ds => noLs ds
  | .list _ => false
  | .none => true
  | .bool _ => true
  | .int _ => true
  | .str _ => true
  | _ => false
noncomputable def noLs : List Dat -> Bool
  | [] => true
  | d :: r => noL d && noLs r
end
section
variable {N N' : Addr -> Prop} {K : PySem.W.Frag} {H H' : Hp}
mutual
theorem Dz.free : ∀ {v : V} {d : Dat}, Dz N K H v d -> noL d = true -> Dz N' K H v d
  | _, _, .none, _ => .none
  | _, _, .bool b, _ => .bool b
  | _, _, .int i, _ => .int i
  | _, _, .str x, _ => .str x
  | _, _, .tup h r, z => .tup h (Dzs.free r (by rw [noL] at z; exact z))
  | _, _, .lst h r, z => by rw [noL] at z; cases z
theorem Dzs.free : ∀ {v : List V} {d : List Dat}, Dzs N K H v d -> noLs d = true -> Dzs N' K H v d
  | _, _, .nil, _ => .nil
  | _, _, .cons h r, z => by
    rw [noLs, Bool.and_eq_true] at z
    exact .cons (Dz.free h z.1) (Dzs.free r z.2)
end
end
theorem noLs_ints (ns : List Int) : noLs (ns.map .int) = true := by
  induction ns with
  | nil => rw [List.map_nil, noLs]
  | cons n r ih => rw [List.map_cons, noLs, ih, noL]; rfl
section
variable {N N' : Addr -> Prop} {K : PySem.W.Frag} {H : Hp}
mutual
theorem Dz.widen (n : ∀ a o, N a -> H a = some o -> N' a) : ∀ {v : V} {d : Dat}, Dz N K H v d -> Dz N' K H v d
  | _, _, .none => .none
  | _, _, .bool b => .bool b
  | _, _, .int i => .int i
  | _, _, .str x => .str x
  | _, _, .tup h r => .tup h (Dzs.widen n r)
  | _, _, .lst h r => .lst (by
      rcases h with ⟨nn, h⟩ | h
      . rcases h with h | ⟨o, h⟩
        . exact .inl ⟨n _ _ nn h, .inl h⟩
        . exact .inl ⟨n _ _ nn h, .inr ⟨o, h⟩⟩
      . exact .inr h) (Dzs.widen n r)
theorem Dzs.widen (n : ∀ a o, N a -> H a = some o -> N' a) : ∀ {v : List V} {d : List Dat}, Dzs N K H v d -> Dzs N' K H v d
  | _, _, .nil => .nil
  | _, _, .cons h r => .cons (Dz.widen n h) (Dzs.widen n r)
end
end
structure Ok (p : Option Addr) (W : Addr -> Prop) (H : Hp) : Prop where
  pu : ∀ q, p = some q -> Pu H q /\ W q
  al : ∀ a, W a -> ∃ ys, H a = some ys
inductive Rs (p : Option Addr) (W : Addr -> Prop) (K : PySem.W.Frag) (H : Hp) : List Addr -> St -> List Sl -> Prop
  | nil : Rs p W K H [] [] []
  | un {L : List Addr} {σ : St} {τ : List Sl} {o : Option V} : Rs p W K H L σ τ -> Rs p W K H L (o :: σ) (.un :: τ)
  | dat {L : List Addr} {σ : St} {τ : List Sl} {v : V} {d : Dat} : Dz (fun a => ¬ W a) K H v d -> Rs p W K H L σ τ -> Rs p W K H L (some v :: σ) (.dat d :: τ)
  | pu {L : List Addr} {σ : St} {τ : List Sl} {q : Addr} : p = some q -> Rs p W K H L σ τ -> Rs p W K H L (some (.ref q) :: σ) (.pu :: τ)
  | own {L : List Addr} {σ : St} {τ : List Sl} {a : Addr} {vs : List V} {ds : List Dat} : W a -> p ≠ some a -> a ∉ L -> H a = some (.lst vs) -> Dzs (fun a => ¬ W a) K H vs ds -> Rs p W K H L σ τ -> Rs p W K H (a :: L) (some (.ref a) :: σ) (.own ds :: τ)
  | dt {L l : List Addr} {σ : St} {τ : List Sl} {a : Addr} {o : Own} : (∀ b, b ∈ l -> W b) -> (∀ b, b ∈ l -> p ≠ some b) -> (∀ b, b ∈ l -> b ∉ L) -> o.R (fun a => ¬ W a) K H a l -> Rs p W K H L σ τ -> Rs p W K H (l ++ L) (some (.ref a) :: σ) (.dt o :: τ)
noncomputable def Rv (p : Option Addr) (W : Addr -> Prop) (K : PySem.W.Frag) (H H' : Hp) (v : V) : Sl -> Prop
  | .un => True
  | .dat d => Dz (fun a => ¬ W a) K H' v d
  | .pu => ∃ q, p = some q /\ v = .ref q
  | .own ds => ∃ a vs, v = .ref a /\ H a = none /\ H' a = some (.lst vs) /\ Dzs (fun a => ¬ W a) K H' vs ds
  | .dt o => ∃ a l, v = .ref a /\ (∀ b, b ∈ l -> H b = none) /\ o.R (fun a => ¬ W a) K H' a l
  | .vw ds => ∃ a vs, v = .ref a /\ SqN (fun a => p ≠ some a) K H' a vs /\ Dzs (fun a => ¬ W a) K H' vs ds
inductive Rvs (p : Option Addr) (W : Addr -> Prop) (K : PySem.W.Frag) (H H' : Hp) : List V -> List Sl -> Prop
  | nil : Rvs p W K H H' [] []
  | cons {v : V} {s : Sl} {vs : List V} {ss : List Sl} : Rv p W K H H' v s -> Rvs p W K H H' vs ss -> Rvs p W K H H' (v :: vs) (s :: ss)
noncomputable def Pp (p : Option Addr) : Addr -> Prop := fun a => p = some a
section
variable {p : Option Addr} {W : Addr -> Prop} {K : PySem.W.Frag} {H H1 H' : Hp} {σ : St} {τ : List Sl} {L : List Addr} {v : V} {s : Sl}
theorem Ok.ev (o : Ok p W H) (e : Ev (Pp p) H H') (q : ∀ q, p = some q -> Pu H' q) : Ok p W H' := ⟨fun a ha => ⟨q a ha, (o.pu a ha).2⟩, fun a ha => by
  by_cases z : p = some a
  . obtain ⟨x, y, h⟩ := q a z; exact ⟨_, h⟩
  . obtain ⟨ys, h⟩ := o.al a ha; exact ⟨ys, e.keep _ _ z h⟩⟩
theorem Rs.ev (r : Rs p W K H L σ τ) (e : Ev (Pp p) H H') (pw : ∀ q, p = some q -> W q) : Rs p W K H' L σ τ := by
  have nw : ∀ a, ¬ W a -> ¬ Pp p a := fun a n z => n (pw a z)
  induction r with
  | nil => exact .nil
  | un _ ih => exact .un ih
  | dat h _ ih => exact .dat (h.ev e nw) ih
  | pu h _ ih => exact .pu h ih
  | own h1 h2 h3 h4 h5 _ ih => exact .own h1 h2 h3 (e.keep _ _ h2 h4) (h5.ev e nw) ih
  | dt h1 h2 h3 h4 _ ih => exact .dt h1 h2 h3 (Own.ev _ h4 e nw fun b o hb h => e.keep _ _ (h2 b hb) h) ih
theorem Rs.get_dat (r : Rs p W K H L σ τ) : ∀ {i : Nat} {d : Dat}, τ[i]? = some (.dat d) -> ∃ v, σ[i]? = some (some v) /\ Dz (fun a => ¬ W a) K H v d := by
  induction r with
  | nil => intro i d h; simp at h
  | un _ ih =>
    intro i d h
    match i, h with
    | 0, h => simp at h
    | i + 1, h => exact ih (i := i) (by simpa using h)
  | dat z _ ih =>
    intro i d h
    match i, h with
    | 0, h => simp at h; subst h; exact ⟨_, rfl, z⟩
    | i + 1, h => exact ih (i := i) (by simpa using h)
  | pu _ _ ih =>
    intro i d h
    match i, h with
    | 0, h => simp at h
    | i + 1, h => exact ih (i := i) (by simpa using h)
  | own _ _ _ _ _ _ ih =>
    intro i d h
    match i, h with
    | 0, h => simp at h
    | i + 1, h => exact ih (i := i) (by simpa using h)
  | dt _ _ _ _ _ ih =>
    intro i d h
    match i, h with
    | 0, h => simp at h
    | i + 1, h => exact ih (i := i) (by simpa using h)
theorem Rs.get_pu (r : Rs p W K H L σ τ) : ∀ {i : Nat}, τ[i]? = some .pu -> ∃ q, p = some q /\ σ[i]? = some (some (.ref q)) := by
  induction r with
  | nil => intro i h; simp at h
  | un _ ih =>
    intro i h
    match i, h with
    | 0, h => simp at h
    | i + 1, h => exact ih (i := i) (by simpa using h)
  | dat z _ ih =>
    intro i h
    match i, h with
    | 0, h => simp at h
    | i + 1, h => exact ih (i := i) (by simpa using h)
  | pu z _ ih =>
    intro i h
    match i, h with
    | 0, h => exact ⟨_, z, rfl⟩
    | i + 1, h => exact ih (i := i) (by simpa using h)
  | own _ _ _ _ _ _ ih =>
    intro i h
    match i, h with
    | 0, h => simp at h
    | i + 1, h => exact ih (i := i) (by simpa using h)
  | dt _ _ _ _ _ ih =>
    intro i h
    match i, h with
    | 0, h => simp at h
    | i + 1, h => exact ih (i := i) (by simpa using h)
theorem Rs.get_own (r : Rs p W K H L σ τ) : ∀ {i : Nat} {ds : List Dat}, τ[i]? = some (.own ds) -> ∃ a vs, σ[i]? = some (some (.ref a)) /\ W a /\ p ≠ some a /\ a ∈ L /\ H a = some (.lst vs) /\ Dzs (fun a => ¬ W a) K H vs ds := by
  induction r with
  | nil => intro i ds h; simp at h
  | un _ ih =>
    intro i ds h
    match i, h with
    | 0, h => simp at h
    | i + 1, h => exact ih (i := i) (by simpa using h)
  | dat z _ ih =>
    intro i ds h
    match i, h with
    | 0, h => simp at h
    | i + 1, h => exact ih (i := i) (by simpa using h)
  | pu z _ ih =>
    intro i ds h
    match i, h with
    | 0, h => simp at h
    | i + 1, h => exact ih (i := i) (by simpa using h)
  | own h1 h2 h3 h4 h5 _ ih =>
    intro i ds h
    match i, h with
    | 0, h => simp at h; subst h; exact ⟨_, _, rfl, h1, h2, List.mem_cons_self, h4, h5⟩
    | i + 1, h =>
      obtain ⟨a, vs, e1, e2, e3, e4, e5⟩ := ih (i := i) (by simpa using h)
      exact ⟨a, vs, by simpa using e1, e2, e3, List.mem_cons_of_mem _ e4, e5⟩
  | dt h1 h2 h3 h4 _ ih =>
    intro i ds h
    match i, h with
    | 0, h => simp at h
    | i + 1, h =>
      obtain ⟨a, vs, e1, e2, e3, e4, e5⟩ := ih (i := i) (by simpa using h)
      exact ⟨a, vs, by simpa using e1, e2, e3, List.mem_append_right _ e4, e5⟩
theorem Rs.set (r : Rs p W K H L σ τ) {v : V} {s : Sl} (hs : (s = .un) \/ (∃ d, s = .dat d /\ Dz (fun a => ¬ W a) K H v d) \/ (s = .pu /\ ∃ q, p = some q /\ v = .ref q)) : ∀ (i : Nat), ∃ L', (∀ a, a ∈ L' -> a ∈ L) /\ Rs p W K H L' (σ.set i (some v)) (τ.set i s) := by
  induction r with
  | nil => intro i; exact ⟨[], fun _ h => h, .nil⟩
  | un r ih =>
    intro i
    match i with
    | 0 =>
      rcases hs with rfl | ⟨d, rfl, z⟩ | ⟨rfl, q, z, rfl⟩
      . exact ⟨_, fun _ h => h, .un r⟩
      . exact ⟨_, fun _ h => h, .dat z r⟩
      . exact ⟨_, fun _ h => h, .pu z r⟩
    | i + 1 => obtain ⟨L', h1, h2⟩ := ih i; exact ⟨L', h1, .un h2⟩
  | dat y r ih =>
    intro i
    match i with
    | 0 =>
      rcases hs with rfl | ⟨d, rfl, z⟩ | ⟨rfl, q, z, rfl⟩
      . exact ⟨_, fun _ h => h, .un r⟩
      . exact ⟨_, fun _ h => h, .dat z r⟩
      . exact ⟨_, fun _ h => h, .pu z r⟩
    | i + 1 => obtain ⟨L', h1, h2⟩ := ih i; exact ⟨L', h1, .dat y h2⟩
  | pu y r ih =>
    intro i
    match i with
    | 0 =>
      rcases hs with rfl | ⟨d, rfl, z⟩ | ⟨rfl, q, z, rfl⟩
      . exact ⟨_, fun _ h => h, .un r⟩
      . exact ⟨_, fun _ h => h, .dat z r⟩
      . exact ⟨_, fun _ h => h, .pu z r⟩
    | i + 1 => obtain ⟨L', h1, h2⟩ := ih i; exact ⟨L', h1, .pu y h2⟩
  | own h1 h2 h3 h4 h5 r ih =>
    intro i
    match i with
    | 0 =>
      rcases hs with rfl | ⟨d, rfl, z⟩ | ⟨rfl, q, z, rfl⟩
      . exact ⟨_, fun _ h => List.mem_cons_of_mem _ h, .un r⟩
      . exact ⟨_, fun _ h => List.mem_cons_of_mem _ h, .dat z r⟩
      . exact ⟨_, fun _ h => List.mem_cons_of_mem _ h, .pu z r⟩
    | i + 1 =>
      obtain ⟨L', g1, g2⟩ := ih i
      refine ⟨_ :: L', fun b hb => ?_, .own h1 h2 (fun z => h3 (g1 _ z)) h4 h5 g2⟩
      rcases List.mem_cons.mp hb with rfl | hb
      . exact List.mem_cons_self
      . exact List.mem_cons_of_mem _ (g1 b hb)
  | dt h1 h2 h3 h4 r ih =>
    intro i
    match i with
    | 0 =>
      rcases hs with rfl | ⟨d, rfl, z⟩ | ⟨rfl, q, z, rfl⟩
      . exact ⟨_, fun _ h => List.mem_append_right _ h, .un r⟩
      . exact ⟨_, fun _ h => List.mem_append_right _ h, .dat z r⟩
      . exact ⟨_, fun _ h => List.mem_append_right _ h, .pu z r⟩
    | i + 1 =>
      obtain ⟨L', g1, g2⟩ := ih i
      exact ⟨_ ++ L', fun b hb => (List.mem_append.mp hb).elim (List.mem_append_left _) (fun z => List.mem_append_right _ (g1 b z)), .dt h1 h2 (fun b hb z => h3 b hb (g1 _ z)) h4 g2⟩
theorem Rs.wide {W' : Addr -> Prop} (r : Rs p W K H L σ τ) (m : ∀ a, W a -> W' a) (n : ∀ a, W' a -> ¬ W a -> H a = none) : Rs p W' K H L σ τ := by
  induction r with
  | nil => exact .nil
  | un _ ih => exact .un ih
  | dat h _ ih => exact .dat (wideZ h) ih
  | pu h _ ih => exact .pu h ih
  | own h1 h2 h3 h4 h5 _ ih => exact .own (m _ h1) h2 h3 h4 (wideZs h5) ih
  | dt h1 h2 h3 h4 _ ih => exact .dt (fun b hb => m _ (h1 b hb)) h2 h3 (Own.wide _ h4 fun a o na ha wa => by rw [n a wa na] at ha; cases ha) ih
where
  wideZ : ∀ {v : V} {d : Dat}, Dz (fun a => ¬ W a) K H v d -> Dz (fun a => ¬ W' a) K H v d
    | _, _, .none => .none
    | _, _, .bool b => .bool b
    | _, _, .int i => .int i
    | _, _, .str x => .str x
    | _, _, .tup h r => .tup h (wideZs r)
    | _, _, .lst h r => .lst (by
        rcases h with ⟨nn, h⟩ | h
        . refine .inl ⟨fun z => ?_, h⟩
          have e1 := n _ z nn
          rcases h with h | ⟨o, h⟩
          . rw [e1] at h; cases h
          . rw [e1] at h; cases h
        . exact .inr h) (wideZs r)
  wideZs : ∀ {v : List V} {d : List Dat}, Dzs (fun a => ¬ W a) K H v d -> Dzs (fun a => ¬ W' a) K H v d
    | _, _, .nil => .nil
    | _, _, .cons h r => .cons (wideZ h) (wideZs r)
end
end D
end
section
namespace D
open PySem L2 K0
open PySem.W (Dat)
section
variable (p : Option Addr) (K : PySem.W.Frag)
noncomputable def E (te : TE) (τ : List Sl) (C : Sl -> Prop) : Prop := ∀ (W : Addr -> Prop) (L : List Addr) (σ : St) (H : Hp) (Q : VK), Rs p W K H L σ τ -> Ok p W H -> (∀ v H' s, C s -> Ev (Pp p) H H' -> Ok p W H' -> Rv p W K H H' v s -> Q v H') -> te σ H Q
noncomputable def E1 (te : TE) (τ : List Sl) (s : Sl) : Prop := E p K te τ (fun x => s = x)
noncomputable def A (ta : TA) (τ : List Sl) (C : List Sl -> Prop) : Prop := ∀ (W : Addr -> Prop) (L : List Addr) (σ : St) (H : Hp) (Q : List V -> Hp -> Prop), Rs p W K H L σ τ -> Ok p W H -> (∀ vs H' ss, C ss -> Ev (Pp p) H H' -> Ok p W H' -> Rvs p W K H H' vs ss -> Q vs H') -> ta σ H Q
noncomputable def A1 (ta : TA) (τ : List Sl) (ss : List Sl) : Prop := A p K ta τ (fun x => ss = x)
noncomputable def T (tt : TT) (τ : List Sl) (C : Bool -> Prop) : Prop := ∀ (W : Addr -> Prop) (L : List Addr) (σ : St) (H : Hp) (Q : Bool -> Hp -> Prop), Rs p W K H L σ τ -> Ok p W H -> (∀ b H', C b -> Ev (Pp p) H H' -> Ok p W H' -> Q b H') -> tt σ H Q
noncomputable def T1 (tt : TT) (τ : List Sl) (b : Bool) : Prop := T p K tt τ (fun x => b = x)
end
section
variable {p : Option Addr} {K : PySem.W.Frag} {W : Addr -> Prop} {L : List Addr} {σ : St} {H H0 H1 H2 : Hp} {τ : List Sl} {ta tb te : TE} {tas : TA} {v : V} {s : Sl}
theorem Ok.pw (o : Ok p W H) : ∀ q, p = some q -> W q := fun q h => (o.pu q h).2
theorem Ok.nw (o : Ok p W H) : ∀ a, ¬ W a -> ¬ Pp p a := fun a n z => n (o.pw a z)
theorem Ok.same (o : Ok p W H) (s : Same H H1) : Ok p W H1 := o.ev (Ev.of s) fun q h => (o.pu q h).1.same s
theorem Ok.back (o : Ok p W H1) (e : Ev (Pp p) H H1) {a : Addr} (h : H1 a = none) : H a = none := by
  cases q : H a with
  | none => rfl
  | some u =>
    by_cases z : p = some a
    . obtain ⟨x, y, e2⟩ := (o.pu a z).1; rw [h] at e2; cases e2
    . rw [e.keep _ _ z q] at h; cases h
theorem Ok.fresh (o : Ok p W H) {a : Addr} (h : H a = none) : ¬ W a := fun z => by
  obtain ⟨ys, e⟩ := o.al a z; rw [h] at e; cases e
theorem Ok.np (o : Ok p W H) {a : Addr} (h : H a = none) : p ≠ some a := fun z => o.fresh h (o.pw a z)
theorem Rv.ev (h : Rv p W K H0 H v s) (e : Ev (Pp p) H H1) (o : Ok p W H) (o0 : Ok p W H0) : Rv p W K H0 H1 v s := by
  cases s with
  | un => trivial
  | dat d => exact Dz.ev e o.nw h
  | pu => exact h
  | own ds =>
    obtain ⟨a, vs, rfl, h1, h2, h3⟩ := h
    exact ⟨a, vs, rfl, h1, e.keep _ _ (o0.np h1) h2, h3.ev e o.nw⟩
  | dt ds =>
    obtain ⟨a, l, rfl, h1, h2⟩ := h
    exact ⟨a, l, rfl, h1, Own.ev _ h2 e o.nw fun b u hb h => e.keep _ _ (o0.np (h1 b hb)) h⟩
  | vw ds =>
    obtain ⟨a, vs, rfl, h2, h3⟩ := h
    refine ⟨a, vs, rfl, ?_, h3.ev e o.nw⟩
    rcases h2 with ⟨z, h2 | ⟨u, h2⟩⟩ | h2
    . exact .inl ⟨z, .inl (e.keep _ _ z h2)⟩
    . exact .inl ⟨z, .inr ⟨u, e.keep _ _ z h2⟩⟩
    . exact .inr h2
theorem Rv.base (h : Rv p W K H1 H v s) (e : Ev (Pp p) H0 H1) (o1 : Ok p W H1) : Rv p W K H0 H v s := by
  cases s with
  | own ds => obtain ⟨a, vs, rfl, h1, h2⟩ := h; exact ⟨a, vs, rfl, o1.back e h1, h2⟩
  | dt ds => obtain ⟨a, vs, rfl, h1, h2⟩ := h; exact ⟨a, vs, rfl, fun b hb => o1.back e (h1 b hb), h2⟩
  | _ => exact h
theorem Rvs.base {vs : List V} {ss : List Sl} (h : Rvs p W K H1 H vs ss) (e : Ev (Pp p) H0 H1) (o1 : Ok p W H1) : Rvs p W K H0 H vs ss := by
  induction h with
  | nil => exact .nil
  | cons a _ ih => exact .cons (a.base e o1) ih
theorem E.mono {C C' : Sl -> Prop} (h : E p K te τ C) (m : ∀ s, C s -> C' s) : E p K te τ C' := fun W L σ H Q r o q => h W L σ H Q r o fun v H' s c => q v H' s (m s c)
theorem E1.of {C : Sl -> Prop} (h : E1 p K te τ s) (c : C s) : E p K te τ C := E.mono h fun x e => e ▸ c
theorem E1.var {i : Nat} {d : Dat} (h : τ[i]? = some (.dat d)) : E1 p K (tVar i) τ (.dat d) := fun W L σ H Q r o q => by
  obtain ⟨v, e, z⟩ := r.get_dat h
  exact ⟨v, e, q v H _ rfl Ev.refl o z⟩
theorem E1.varP {i : Nat} (h : τ[i]? = some .pu) : E1 p K (tVar i) τ .pu := fun W L σ H Q r o q => by
  obtain ⟨a, e, z⟩ := r.get_pu h
  exact ⟨_, z, q _ H _ rfl Ev.refl o ⟨a, e, rfl⟩⟩
theorem E1.varO {i : Nat} {ds : List Dat} (h : τ[i]? = some (.own ds)) : E1 p K (tVar i) τ (.vw ds) := fun W L σ H Q r o q => by
  obtain ⟨a, vs, e, w, n, _, h1, z⟩ := r.get_own h
  exact ⟨_, e, q _ H _ rfl Ev.refl o ⟨a, vs, rfl, .inl ⟨n, .inl h1⟩, z⟩⟩
theorem E1.varL {i : Nat} {ds : List Dat} (h : τ[i]? = some (.dat (.list ds))) : E1 p K (tVar i) τ (.vw ds) := fun W L σ H Q r o q => by
  obtain ⟨v, e, z⟩ := r.get_dat h
  cases z with
  | lst h1 h2 => exact ⟨_, e, q _ H _ rfl Ev.refl o ⟨_, _, rfl, h1.elim (fun z => .inl ⟨fun y => z.1 (o.pw _ y), z.2⟩) .inr, h2⟩⟩
theorem E1.int {i : Int} : E1 p K (tC (.int i)) τ (.dat (.int i)) := fun W L σ H Q r o q => q _ H _ rfl Ev.refl o (.int i)
theorem E1.bl {i : Bool} : E1 p K (tC (.bl i)) τ (.dat (.bool i)) := fun W L σ H Q r o q => q _ H _ rfl Ev.refl o (.bool i)
theorem E1.non : E1 p K (tC .non) τ (.dat .none) := fun W L σ H Q r o q => q _ H _ rfl Ev.refl o .none
theorem E1.frz {ds : List Dat} (h : E1 p K te τ (.own ds)) : E1 p K te τ (.dat (.list ds)) := fun W L σ H Q r o q => h W L σ H Q r o fun v H' s e ev o' rv => by
  subst e
  obtain ⟨a, vs, rfl, h1, h2, h3⟩ := rv
  exact q _ H' _ rfl ev o' (.lst (.inl ⟨o.fresh h1, .inl h2⟩) h3)
theorem E1.vwo {ds : List Dat} (h : E1 p K te τ (.own ds)) : E1 p K te τ (.vw ds) := fun W L σ H Q r o q => h W L σ H Q r o fun v H' s e ev o' rv => by
  subst e
  obtain ⟨a, vs, rfl, h1, h2, h3⟩ := rv
  exact q _ H' _ rfl ev o' ⟨a, vs, rfl, .inl ⟨o.np h1, .inl h2⟩, h3⟩
theorem E.op2 {r : R2} {A B C : Sl -> Prop} {B' : Sl -> Sl -> Prop} (ha : E p K ta τ A) (hb : ∀ s, A s -> E p K tb τ (B' s))
    (hr : ∀ s t, A s -> B' s t -> ∀ (W : Addr -> Prop) (H0 H : Hp) (x y : V) (Q : VK), Ok p W H0 -> Ok p W H -> Rv p W K H0 H x s -> Rv p W K H0 H y t -> (∀ v H' u, C u -> Ev (Pp p) H H' -> Ok p W H' -> Rv p W K H0 H' v u -> Q v H') -> r x y H Q) : E p K (tOp r ta tb) τ C :=
  fun W L σ H Q rs o q => ha W L σ H _ rs o fun x H1 s cs e1 o1 rv1 => hb s cs W L σ H1 _ (rs.ev e1 o.pw) o1 fun y H2 t ct e2 o2 rv2 =>
    hr s t cs ct W H H2 x y _ o o2 (rv1.ev e2 o1 o) (rv2.base e1 o1) fun v H' u cu e3 o3 rv3 => q v H' u cu ((e1.trans e2).trans e3) o3 rv3
theorem E1.op2 {r : R2} {a b c : Sl} (ha : E1 p K ta τ a) (hb : E1 p K tb τ b)
    (hr : ∀ (W : Addr -> Prop) (H0 H : Hp) (x y : V) (Q : VK), Ok p W H0 -> Ok p W H -> Rv p W K H0 H x a -> Rv p W K H0 H y b -> (∀ v H', Ev (Pp p) H H' -> Ok p W H' -> Rv p W K H0 H' v c -> Q v H') -> r x y H Q) : E1 p K (tOp r ta tb) τ c :=
  E.op2 (B := fun _ => True) (B' := fun _ x => b = x) ha (fun _ _ => hb) fun s t hs ht W H0 H x y Q o0 o r1 r2 q => by
    subst hs ht
    exact hr W H0 H x y Q o0 o r1 r2 fun v H' => q v H' c rfl
theorem Rv.int_inv {i : Int} (h : Rv p W K H0 H v (.dat (.int i))) : v = .int i := by cases h; rfl
theorem Rv.bl_inv {i : Bool} (h : Rv p W K H0 H v (.dat (.bool i))) : v = .bl i := by cases h; rfl
theorem E1.opI0 {g : Int -> Int -> V} {i j : Int} {d : Dat} (ha : E1 p K ta τ (.dat (.int i))) (hb : E1 p K tb τ (.dat (.int j))) (hd : ∀ (N : Addr -> Prop) (K : PySem.W.Frag) (H : Hp), Dz N K H (g i j) d) : E1 p K (tOp (rI0 g) ta tb) τ (.dat d) :=
  E1.op2 ha hb fun W H0 H x y Q o0 o r1 r2 q => ⟨i, j, r1.int_inv, r2.int_inv, q _ H Ev.refl o (hd _ K H)⟩
theorem E1.opI {g : Int -> Int -> V} {Cn : Int -> Int -> Prop} {i j : Int} {d : Dat} (ha : E1 p K ta τ (.dat (.int i))) (hb : E1 p K tb τ (.dat (.int j))) (hc : Cn i j) (hd : ∀ (N : Addr -> Prop) (K : PySem.W.Frag) (H : Hp), Dz N K H (g i j) d) : E1 p K (tOp (rI Cn g) ta tb) τ (.dat d) :=
  E1.op2 ha hb fun W H0 H x y Q o0 o r1 r2 q => ⟨i, j, r1.int_inv, r2.int_inv, hc, q _ H Ev.refl o (hd _ K H)⟩
section
variable {i j : Int} (ha : E1 p K ta τ (.dat (.int i))) (hb : E1 p K tb τ (.dat (.int j)))
include ha hb
theorem E1.add : E1 p K (tOp (rI0 fun i j => .int (i + j)) ta tb) τ (.dat (.int (i + j))) := E1.opI0 ha hb fun _ _ _ => .int _
theorem E1.sub : E1 p K (tOp (rI0 fun i j => .int (i - j)) ta tb) τ (.dat (.int (i - j))) := E1.opI0 ha hb fun _ _ _ => .int _
theorem E1.mul (hc : IntMulOk i j) : E1 p K (tOp (rI IntMulOk fun i j => .int (i * j)) ta tb) τ (.dat (.int (i * j))) := E1.opI ha hb hc fun _ _ _ => .int _
theorem E1.fdiv (hc : CDivB i j) : E1 p K (tOp (rI CDivB fun i j => .int (i.fdiv j)) ta tb) τ (.dat (.int (i.fdiv j))) := E1.opI ha hb hc fun _ _ _ => .int _
theorem E1.mod (hc : 0 < j) : E1 p K (tOp (rI (fun _ j => 0 < j) fun i j => .int (i % j)) ta tb) τ (.dat (.int (i % j))) := E1.opI ha hb hc fun _ _ _ => .int _
theorem E1.pow (hc : CPow i j) : E1 p K (tOp (rI CPow fun i j => .int (i ^ j.toNat)) ta tb) τ (.dat (.int (i ^ j.toNat))) := E1.opI ha hb hc fun _ _ _ => .int _
theorem E1.lt : E1 p K (tOp (rI0 fun i j => .bl (decide (i < j))) ta tb) τ (.dat (.bool (decide (i < j)))) := E1.opI0 ha hb fun _ _ _ => .bool _
theorem E1.gt : E1 p K (tOp (rI0 fun i j => .bl (decide (j < i))) ta tb) τ (.dat (.bool (decide (j < i)))) := E1.opI0 ha hb fun _ _ _ => .bool _
theorem E1.eq : E1 p K (tOp rEq ta tb) τ (.dat (.bool (decide (i = j)))) := E1.op2 ha hb fun W H0 H x y Q o0 o r1 r2 q => by
  cases r1.int_inv; cases r2.int_inv
  refine ⟨rfl, q _ H Ev.refl o ?_⟩
  have e : decide (V.int i = V.int j) = decide (i = j) := by rw [decide_eq_decide]; exact ⟨fun h => by injection h, fun h => by rw [h]⟩
  rw [e]; exact .bool _
theorem E1.ne : E1 p K (tOp rNe ta tb) τ (.dat (.bool (!decide (i = j)))) := E1.op2 ha hb fun W H0 H x y Q o0 o r1 r2 q => by
  cases r1.int_inv; cases r2.int_inv
  refine ⟨rfl, q _ H Ev.refl o ?_⟩
  have e : decide (V.int i = V.int j) = decide (i = j) := by rw [decide_eq_decide]; exact ⟨fun h => by injection h, fun h => by rw [h]⟩
  rw [e]; exact .bool _
end
theorem E1.neg {i : Int} (ha : E1 p K ta τ (.dat (.int i))) : E1 p K (tUn (rU fun i => .int (-i)) ta) τ (.dat (.int (-i))) := fun W L σ H Q rs o q => ha W L σ H _ rs o fun x H1 s e e1 o1 rv => by
  subst e; cases rv.int_inv
  exact ⟨i, rfl, q _ H1 _ rfl e1 o1 (.int _)⟩
noncomputable def datOf : Sl -> Option Dat
  | .dat d => some d
  | .vw ds => some (.list ds)
  | .own ds => some (.list ds)
  | _ => none
theorem Rv.isD {d : Dat} (h : Rv p W K H0 H v s) (e : datOf s = some d) : Is K H v d := by
  cases s with
  | un => cases e
  | pu => cases e
  | dat d' => cases e; exact Dz.is h
  | own ds => cases e; obtain ⟨a, vs, rfl, _, h2, h3⟩ := h; exact .lst (SqL.of h2) h3.is
  | dt ds => cases e
  | vw ds => cases e; obtain ⟨a, vs, rfl, h2, h3⟩ := h; exact .lst h2.sq h3.is
theorem E1.eqD {a b : Sl} {d e : Dat} (ha : E1 p K ta τ a) (hb : E1 p K tb τ b) (ea : datOf a = some d) (eb : datOf b = some e) (k1 : PySem.W.kqdOk 9 d = true) (k2 : PySem.W.kqdOk 9 e = true) : E1 p K (tOp (rEqD K false) ta tb) τ (.dat (.bool (deq d e))) :=
  E1.op2 ha hb fun W H0 H x y Q o0 o r1 r2 q => ⟨d, e, r1.isD ea, r2.isD eb, k1, k2, q _ H Ev.refl o (.bool _)⟩
theorem E1.neD {a b : Sl} {d e : Dat} (ha : E1 p K ta τ a) (hb : E1 p K tb τ b) (ea : datOf a = some d) (eb : datOf b = some e) (k1 : PySem.W.kqdOk 9 d = true) (k2 : PySem.W.kqdOk 9 e = true) : E1 p K (tOp (rEqD K true) ta tb) τ (.dat (.bool (!deq d e))) :=
  E1.op2 ha hb fun W H0 H x y Q o0 o r1 r2 q => ⟨d, e, r1.isD ea, r2.isD eb, k1, k2, q _ H Ev.refl o (.bool _)⟩
theorem atI_dz {N : Addr -> Prop} {xs : List V} {ds : List Dat} {i : Int} {d : Dat} (h : Dzs N K H xs ds) (e : atI ds i = some d) : ∃ x, atI xs i = some x /\ Dz N K H x d := by
  unfold atI at e ⊢
  rw [h.len]
  cases q : ixN ds.length i with
  | none => rw [q] at e; cases e
  | some j =>
    rw [q] at e
    obtain ⟨x, e1, e2⟩ := h.get (i := j) (by simpa using e)
    exact ⟨x, by simpa using e1, e2⟩
theorem E1.ixT {ds : List Dat} {i : Int} {d : Dat} (ha : E1 p K ta τ (.dat (.tuple ds))) (hb : E1 p K tb τ (.dat (.int i))) (h : atI ds i = some d) : E1 p K (tOp (rIxT K) ta tb) τ (.dat d) :=
  E1.op2 ha hb fun W H0 H x y Q o0 o r1 r2 q => by
    cases r2.int_inv
    cases r1 with
    | tup h1 h2 =>
      obtain ⟨x, e1, e2⟩ := atI_dz h2 h
      exact ⟨_, _, i, x, rfl, rfl, h1, e1, q _ H Ev.refl o e2⟩
theorem E1.ixL {ds : List Dat} {i : Int} {d : Dat} (ha : E1 p K ta τ (.vw ds)) (hb : E1 p K tb τ (.dat (.int i))) (h : atI ds i = some d) : E1 p K (tOp (rIxL K) ta tb) τ (.dat d) :=
  E1.op2 ha hb fun W H0 H x y Q o0 o r1 r2 q => by
    cases r2.int_inv
    obtain ⟨a, vs, rfl, h1, h2⟩ := r1
    obtain ⟨x, e1, e2⟩ := atI_dz h2 h
    exact ⟨_, _, i, x, rfl, rfl, h1.sq, e1, q _ H Ev.refl o e2⟩
theorem A1.nil : A1 p K tNil τ [] := fun W L σ H Q rs o q => q [] H _ rfl Ev.refl o .nil
theorem A.cons {C1 : Sl -> Prop} {C2 : Sl -> List Sl -> Prop} {C : List Sl -> Prop} (ha : E p K te τ C1) (hr : ∀ s, C1 s -> A p K tas τ (C2 s)) (m : ∀ s ss, C1 s -> C2 s ss -> C (s :: ss)) : A p K (tCons te tas) τ C := fun W L σ H Q rs o q =>
  ha W L σ H _ rs o fun x H1 s c1 e1 o1 rv1 => hr s c1 W L σ H1 _ (rs.ev e1 o.pw) o1 fun xs H2 ss c2 e2 o2 rv2 => q _ H2 _ (m s ss c1 c2) (e1.trans e2) o2 (.cons (rv1.ev e2 o1 o) (rv2.base e1 o1))
theorem A1.cons {ss : List Sl} (ha : E1 p K te τ s) (hr : A1 p K tas τ ss) : A1 p K (tCons te tas) τ (s :: ss) := A.cons (C2 := fun _ x => ss = x) ha (fun _ _ => hr) fun s ss h1 h2 => by rw [h1, h2]
theorem Rvs.dats {ds : List Dat} {vs : List V} (h : Rvs p W K H0 H vs (ds.map .dat)) : Dzs (fun a => ¬ W a) K H vs ds := by
  induction ds generalizing vs with
  | nil => cases h; exact .nil
  | cons d r ih =>
    cases h with
    | cons a t => exact .cons a (ih t)
theorem Rvs.len {ss : List Sl} {vs : List V} (h : Rvs p W K H0 H vs ss) : vs.length = ss.length := by
  induction h with
  | nil => rfl
  | cons _ _ ih => rw [List.length_cons, List.length_cons, ih]
theorem E1.tup {ds : List Dat} (h : A1 p K tas τ (ds.map .dat)) (hz : ds.length <= sizeLine) : E1 p K (tTup tas) τ (.dat (.tuple ds)) := fun W L σ H Q rs o q =>
  h W L σ H _ rs o fun vs H1 ss e e1 o1 rv => by
    subst e
    refine ⟨by rw [rv.len, List.length_map]; exact hz, fun a ha => ?_⟩
    have s1 := Same.new ha (.tup vs)
    exact q _ _ _ rfl (e1.trans (Ev.of s1)) (o1.same s1) (.tup (SqT.of upd_same) (rv.dats.ev (W := Pp p) (Ev.of s1) o1.nw))
theorem E1.lst {ds : List Dat} (h : A1 p K tas τ (ds.map .dat)) (hz : ds.length <= sizeLine) : E1 p K (tLst tas) τ (.own ds) := fun W L σ H Q rs o q =>
  h W L σ H _ rs o fun vs H1 ss e e1 o1 rv => by
    subst e
    refine ⟨by rw [rv.len, List.length_map]; exact hz, fun a ha => ?_⟩
    have s1 := Same.new ha (.lst vs)
    exact q _ _ _ rfl (e1.trans (Ev.of s1)) (o1.same s1) ⟨a, vs, rfl, o1.back e1 ha, upd_same, rv.dats.ev (W := Pp p) (Ev.of s1) o1.nw⟩
theorem E1.to {s' : Sl} (h : E1 p K te τ s) (e : s = s') : E1 p K te τ s' := e ▸ h
theorem T.mono {tt : TT} {C C' : Bool -> Prop} (h : T p K tt τ C) (m : ∀ s, C s -> C' s) : T p K tt τ C' := fun W L σ H Q r o q => h W L σ H Q r o fun v H' c => q v H' (m v c)
theorem T1.test {b : Bool} (h : E1 p K te τ (.dat (.bool b))) : T1 p K (tTest te) τ b := fun W L σ H Q rs o q => h W L σ H _ rs o fun v H' s e e1 o1 rv => by
  subst e; cases rv.bl_inv; exact ⟨b, rfl, q b H' rfl e1 o1⟩
theorem T1.val {b : Bool} (h : E1 p K te τ (.dat (.bool b))) : T1 p K (tB te) τ b := fun W L σ H Q rs o q => h W L σ H _ rs o fun v H' s e e1 o1 rv => by
  subst e; cases rv.bl_inv; exact ⟨b, rfl, q b H' rfl e1 o1⟩
theorem T1.not {tt : TT} {b : Bool} (h : T1 p K tt τ b) : T1 p K (tNot tt) τ (!b) := fun W L σ H Q rs o q => h W L σ H _ rs o fun v H' e e1 o1 => by
  subst e; exact q _ H' rfl e1 o1
theorem T.and {tt tu : TT} {C D : Bool -> Prop} (h : T p K tt τ C) (ht : C true -> T p K tu τ D) (hf : C false -> D false) : T p K (tAnd tt tu) τ D := fun W L σ H Q rs o q => h W L σ H _ rs o fun v H' c e1 o1 => by
  cases v with
  | true => rw [if_pos rfl]; exact ht c W L σ H' _ (rs.ev e1 o.pw) o1 fun b H2 d e2 => q b H2 d (e1.trans e2)
  | false => rw [if_neg (by decide)]; exact q _ H' (hf c) e1 o1
end
end D
end
section
namespace D
open PySem L2 K0
open PySem.W (Dat)
noncomputable def Rr (p : Option Addr) (W : Addr -> Prop) (K : PySem.W.Frag) (L : List Addr) (H H' : Hp) (v : V) : Sl -> Prop
  | .own ds => ∃ a vs, v = .ref a /\ (a ∈ L \/ H a = none) /\ H' a = some (.lst vs) /\ Dzs (fun a => ¬ W a) K H' vs ds
  | .dt o => ∃ a l, v = .ref a /\ (∀ b, b ∈ l -> b ∈ L \/ H b = none) /\ o.R (fun a => ¬ W a) K H' a l
  | s => Rv p W K H H' v s
section
variable (p : Option Addr) (K : PySem.W.Frag)
noncomputable def S (ts : TS) (τ : List Sl) (nx : List Sl -> Prop) (rt : Sl -> Prop) : Prop := ∀ (W : Addr -> Prop) (L : List Addr) (σ : St) (H : Hp) (D : Ends), Rs p W K H L σ τ -> Ok p W H ->
  (∀ (W' : Addr -> Prop) (L' : List Addr) σ' H' τ', nx τ' -> Ev W H H' -> Ok p W' H' -> (∀ a, W a -> ∃ ys, H' a = some ys) -> (∀ a, W' a -> W a \/ H a = none) -> (∀ a, a ∈ L' -> a ∈ L \/ H a = none) -> Rs p W' K H' L' σ' τ' -> D.nx σ' H') ->
  (∀ (W' : Addr -> Prop) H' v s, rt s -> Ev W H H' -> Ok p W' H' -> (∀ a, W a -> ∃ ys, H' a = some ys) -> (∀ a, W' a -> W a \/ H a = none) -> Rr p W' K L H H' v s -> D.rt v H') -> ts D σ H
end
section
variable {p : Option Addr} {K : PySem.W.Frag} {W : Addr -> Prop} {L : List Addr} {σ : St} {H H0 H1 H2 : Hp} {τ : List Sl} {te : TE} {v : V} {s : Sl} {nx : List Sl -> Prop} {rt : Sl -> Prop} {t u : TS}
theorem Rv.rr (h : Rv p W K H0 H v s) : Rr p W K L H0 H v s := by
  cases s with
  | own ds => obtain ⟨a, vs, e, h1, h2⟩ := h; exact ⟨a, vs, e, .inr h1, h2⟩
  | dt ds => obtain ⟨a, vs, e, h1, h2⟩ := h; exact ⟨a, vs, e, fun b hb => .inr (h1 b hb), h2⟩
  | _ => exact h
theorem Rr.base {L' : List Addr} (h : Rr p W K L' H1 H v s) (hn : ∀ a, H1 a = none -> H0 a = none) (hl : ∀ a, a ∈ L' -> a ∈ L \/ H0 a = none) : Rr p W K L H0 H v s := by
  cases s with
  | own ds => obtain ⟨a, vs, e, h1, h2⟩ := h; exact ⟨a, vs, e, h1.elim (hl a) fun z => .inr (hn a z), h2⟩
  | dt ds => obtain ⟨a, vs, e, h1, h2⟩ := h; exact ⟨a, vs, e, fun b hb => (h1 b hb).elim (hl b) fun z => .inr (hn b z), h2⟩
  | _ => exact h
theorem Ev.ofP (e : Ev (Pp p) H H1) (o : Ok p W H) : Ev W H H1 := e.mono o.pw
theorem Ev.chain {W W' : Addr -> Prop} (e : Ev W H H1) (e2 : Ev W' H1 H2) (n : ∀ a, W' a -> W a \/ H a = none) : Ev W H H2 := ⟨fun b o nb h => e2.keep b o (fun z => by
  rcases n b z with y | y
  . exact nb y
  . rw [h] at y; cases y) (e.keep b o nb h), e.tm.trans e2.tm⟩
theorem Ev.none (e : Ev W H H1) (al : ∀ a, W a -> ∃ ys, H1 a = some ys) {a : Addr} (h : H1 a = none) : H a = none := by
  cases q : H a with
  | none => rfl
  | some u =>
    by_cases z : W a
    . obtain ⟨ys, e2⟩ := al a z; rw [h] at e2; cases e2
    . rw [e.keep _ _ z q] at h; cases h
theorem al_chain {W W1 : Addr -> Prop} (w1 : ∀ a, W a -> ∃ ys, H1 a = some ys) (w2 : ∀ a, W1 a -> ∃ ys, H2 a = some ys) (e2 : Ev W1 H1 H2) : ∀ a, W a -> ∃ ys, H2 a = some ys := fun a ha => by
  by_cases z : W1 a
  . exact w2 a z
  . obtain ⟨ys, h⟩ := w1 a ha; exact ⟨ys, e2.keep _ _ z h⟩
theorem S.seq {M : List Sl -> Prop} (h1 : S p K t τ M rt) (h2 : ∀ τ', M τ' -> S p K u τ' nx rt) : S p K (tSeq t u) τ nx rt := fun W L σ H D r o q1 q2 =>
  h1 W L σ H _ r o (fun W1 L1 σ1 H1 τ1 m e1 o1 w1 n1 l1 r1 => by
    have hn : ∀ a, H1 a = none -> H a = none := fun a ha => e1.none w1 ha
    exact h2 τ1 m W1 L1 σ1 H1 D r1 o1 (fun W2 L2 σ2 H2 τ2 c e2 o2 w2 n2 l2 r2 => q1 W2 L2 σ2 H2 τ2 c (e1.chain e2 n1) o2 (al_chain w1 w2 e2)
        (fun a ha => (n2 a ha).elim (n1 a) fun z => .inr (hn a z)) (fun a ha => (l2 a ha).elim (l1 a) fun z => .inr (hn a z)) r2)
      fun W2 H2 v s c e2 o2 w2 n2 rv => q2 W2 H2 v s c (e1.chain e2 n1) o2 (al_chain w1 w2 e2) (fun a ha => (n2 a ha).elim (n1 a) fun z => .inr (hn a z)) (rv.base hn l1)) q2
theorem S.next (h : nx τ) : S p K tNext τ nx rt := fun W L σ H D r o q1 q2 => q1 W L σ H τ h Ev.refl o o.al (fun _ h => .inl h) (fun _ h => .inl h) r
theorem S.ret {C : Sl -> Prop} (h : E p K te τ C) (m : ∀ s, C s -> rt s) : S p K (tRet te) τ nx rt := fun W L σ H D r o q1 q2 => h W L σ H _ r o fun v H' s c e o' rv => q2 W H' v s (m s c) (e.ofP o) o' o'.al (fun _ h => .inl h) rv.rr
theorem S.ret1 (h : E1 p K te τ s) (m : rt s) : S p K (tRet te) τ nx rt := S.ret h fun x e => e ▸ m
theorem S.retO {i : Nat} {ds : List Dat} (h : τ[i]? = some (.own ds)) (m : rt (.own ds)) : S p K (tRet (tVar i)) τ nx rt := fun W L σ H D r o q1 q2 => by
  obtain ⟨a, vs, e, w, n, l, h1, z⟩ := r.get_own h
  exact ⟨_, e, q2 W H _ _ m Ev.refl o o.al (fun _ h => .inl h) ⟨a, vs, rfl, .inl l, h1, z⟩⟩
theorem S.iff {tc : TT} {C : Bool -> Prop} (h : T p K tc τ C) (ht : C true -> S p K t τ nx rt) (hf : C false -> S p K u τ nx rt) : S p K (tIfS tc t u) τ nx rt := fun W L σ H D r o q1 q2 => h W L σ H _ r o fun b H1 c e o1 => by
  have e1 := e.ofP o
  have hn : ∀ a, H1 a = none -> H a = none := fun a ha => e1.none (fun a h => o1.al a h) ha
  have go : ∀ {t : TS}, S p K t τ nx rt -> t D σ H1 := fun h => h W L σ H1 D (r.ev e o.pw) o1 (fun W2 L2 σ2 H2 τ2 c e2 o2 w2 n2 l2 r2 => q1 W2 L2 σ2 H2 τ2 c (e1.trans e2) o2 (al_chain o1.al w2 e2) (fun a ha => (n2 a ha).elim .inl fun z => .inr (hn a z)) (fun a ha => (l2 a ha).elim .inl fun z => .inr (hn a z)) r2)
      fun W2 H2 v s c e2 o2 w2 n2 rv => q2 W2 H2 v s c (e1.trans e2) o2 (al_chain o1.al w2 e2) (fun a ha => (n2 a ha).elim .inl fun z => .inr (hn a z)) (rv.base hn fun _ h => .inl h)
  cases b with
  | true => rw [if_pos rfl]; exact go (ht c)
  | false => rw [if_neg (by decide)]; exact go (hf c)
theorem S.if1 {tc : TT} {b : Bool} (h : T1 p K tc τ b) (ht : b = true -> S p K t τ nx rt) (hf : b = false -> S p K u τ nx rt) : S p K (tIfS tc t u) τ nx rt := S.iff h ht hf
theorem S.ifF {tc : TT} (h : T1 p K tc τ false) (hf : S p K u τ nx rt) : S p K (tIfS tc t u) τ nx rt := S.iff h (fun z => by cases z) fun _ => hf
theorem S.ifs {tc : TT} {b : Bool} (h : T1 p K tc τ b) (ht : b = true -> S p K t τ (fun τ' => S p K u τ' nx rt) rt) (hf : b = false -> S p K u τ nx rt) : S p K (tSeq (tIfS tc t tNext) u) τ nx rt :=
  S.seq (M := fun τ' => S p K u τ' nx rt) (S.if1 h ht fun z => S.next (hf z)) fun _ h => h
theorem S.ifsF {tc : TT} (h : T1 p K tc τ false) (hf : S p K u τ nx rt) : S p K (tSeq (tIfS tc t tNext) u) τ nx rt := S.ifs h (fun z => by cases z) fun _ => hf
theorem S.ifsC {tc : TT} {C : Bool -> Prop} (h : T p K tc τ C) (ht : C true -> S p K t τ (fun τ' => S p K u τ' nx rt) rt) (hf : C false -> S p K u τ nx rt) : S p K (tSeq (tIfS tc t tNext) u) τ nx rt :=
  S.seq (M := fun τ' => S p K u τ' nx rt) (S.iff h ht fun z => S.next (hf z)) fun _ h => h
noncomputable def flat : Sl -> Bool
  | .own _ => false
  | .dt _ => false
  | .vw _ => false
  | _ => true
theorem S.asg {C : Sl -> Prop} {i : Nat} (h : E p K te τ C) (hf : ∀ s, C s -> flat s = true) (m : ∀ s, C s -> nx (τ.set i s)) : S p K (tAsg te (gName i)) τ nx rt := fun W L σ H D r o q1 q2 => h W L σ H _ r o fun v H1 s c e o1 rv => by
  have z := hf s c
  obtain ⟨L', l, r'⟩ := (r.ev e o.pw).set (v := v) (s := s) (by
    cases s with
    | un => exact .inl rfl
    | dat d => exact .inr (.inl ⟨d, rfl, rv⟩)
    | pu => exact .inr (.inr ⟨rfl, rv⟩)
    | own ds => cases z
    | dt ds => cases z
    | vw ds => cases z) i
  exact q1 W L' _ H1 _ (m s c) (e.ofP o) o1 o1.al (fun _ h => .inl h) (fun a ha => .inl (l a ha)) r'
theorem S.letC {C : Sl -> Prop} {i : Nat} (h : E p K te τ C) (hf : ∀ s, C s -> flat s = true) (m : ∀ s, C s -> S p K u (τ.set i s) nx rt) : S p K (tSeq (tAsg te (gName i)) u) τ nx rt :=
  S.seq (M := fun τ' => ∃ s, C s /\ τ' = τ.set i s) (S.asg h hf fun s c => ⟨s, c, rfl⟩) fun τ' ⟨s, c, e⟩ => e ▸ m s c
theorem S.let1 {i : Nat} {τ' : List Sl} (h : E1 p K te τ s) (m : S p K u τ' nx rt) (e : τ.set i s = τ' := by rfl) (hf : flat s = true := by rfl) : S p K (tSeq (tAsg te (gName i)) u) τ nx rt :=
  S.letC h (fun x y => y ▸ hf) fun x y => by subst y; rw [e]; exact m
theorem S.asg1 {i : Nat} {τ' : List Sl} (h : E1 p K te τ s) (m : nx τ') (e : τ.set i s = τ' := by rfl) (hf : flat s = true := by rfl) : S p K (tAsg te (gName i)) τ nx rt :=
  S.asg h (fun x y => y ▸ hf) fun x y => by subst y; rw [e]; exact m
theorem Rs.setO (r : Rs p W K H L σ τ) {a : Addr} {vs : List V} {ds : List Dat} (wa : W a) (np : p ≠ some a) (nl : a ∉ L) (h : H a = some (.lst vs)) (z : Dzs (fun a => ¬ W a) K H vs ds) : ∀ (i : Nat), ∃ L', (∀ b, b ∈ L' -> b = a \/ b ∈ L) /\ Rs p W K H L' (σ.set i (some (.ref a))) (τ.set i (.own ds)) := by
  induction r with
  | nil => intro i; exact ⟨[], fun _ h => .inr h, .nil⟩
  | un r ih =>
    intro i
    match i with
    | 0 => exact ⟨_, fun b hb => by simpa using hb, .own wa np nl h z r⟩
    | i + 1 => obtain ⟨L', h1, h2⟩ := ih nl i; exact ⟨L', h1, .un h2⟩
  | dat y r ih =>
    intro i
    match i with
    | 0 => exact ⟨_, fun b hb => by simpa using hb, .own wa np nl h z r⟩
    | i + 1 => obtain ⟨L', h1, h2⟩ := ih nl i; exact ⟨L', h1, .dat y h2⟩
  | pu y r ih =>
    intro i
    match i with
    | 0 => exact ⟨_, fun b hb => by simpa using hb, .own wa np nl h z r⟩
    | i + 1 => obtain ⟨L', h1, h2⟩ := ih nl i; exact ⟨L', h1, .pu y h2⟩
  | own g1 g2 g3 g4 g5 r ih =>
    intro i
    have nl' := fun y => nl (List.mem_cons_of_mem _ y)
    match i with
    | 0 => exact ⟨_, fun b hb => (List.mem_cons.mp hb).imp id (List.mem_cons_of_mem _), .own wa np nl' h z r⟩
    | i + 1 =>
      obtain ⟨L', h1, h2⟩ := ih nl' i
      refine ⟨_ :: L', fun b hb => ?_, .own g1 g2 (fun y => ?_) g4 g5 h2⟩
      . rcases List.mem_cons.mp hb with rfl | hb
        . exact .inr List.mem_cons_self
        . exact (h1 b hb).imp id (List.mem_cons_of_mem _)
      . rcases h1 _ y with y | y
        . exact nl (y ▸ List.mem_cons_self)
        . exact g3 y
  | dt g1 g2 g3 g4 r ih =>
    intro i
    have nl' := fun y => nl (List.mem_append_right _ y)
    match i with
    | 0 => exact ⟨_, fun b hb => (List.mem_cons.mp hb).imp id (List.mem_append_right _), .own wa np nl' h z r⟩
    | i + 1 =>
      obtain ⟨L', h1, h2⟩ := ih nl' i
      refine ⟨_ ++ L', fun b hb => ?_, .dt g1 g2 (fun b hb y => ?_) g4 h2⟩
      . rcases List.mem_append.mp hb with hb | hb
        . exact .inr (List.mem_append_left _ hb)
        . exact (h1 b hb).imp id (List.mem_append_right _)
      . rcases h1 _ y with y | y
        . exact nl (y ▸ List.mem_append_left _ hb)
        . exact g3 b hb y
theorem Rs.own_in (r : Rs p W K H L σ τ) : ∀ a, a ∈ L -> ∃ vs, H a = some vs := by
  induction r with
  | nil => intro a h; cases h
  | un _ ih => exact ih
  | dat _ _ ih => exact ih
  | pu _ _ ih => exact ih
  | own _ _ _ h4 _ _ ih => intro a h; rcases List.mem_cons.mp h with rfl | h
                           . exact ⟨_, h4⟩
                           . exact ih a h
  | dt _ _ _ h4 _ ih =>
    intro a h; rcases List.mem_append.mp h with h | h
    . exact Own.al _ h4 a h
    . exact ih a h
theorem Dzs.wide {W W' : Addr -> Prop} {vs : List V} {ds : List Dat} (h : Dzs (fun a => ¬ W a) K H vs ds) (n : ∀ a, W' a -> ¬ W a -> H a = none) : Dzs (fun a => ¬ W' a) K H vs ds := by
  exact go n h
where
  go {W W' : Addr -> Prop} (n : ∀ a, W' a -> ¬ W a -> H a = none) : ∀ {vs : List V} {ds : List Dat}, Dzs (fun a => ¬ W a) K H vs ds -> Dzs (fun a => ¬ W' a) K H vs ds
    | _, _, .nil => .nil
    | _, _, .cons h r => .cons (go1 n h) (go n r)
  go1 {W W' : Addr -> Prop} (n : ∀ a, W' a -> ¬ W a -> H a = none) : ∀ {v : V} {d : Dat}, Dz (fun a => ¬ W a) K H v d -> Dz (fun a => ¬ W' a) K H v d
    | _, _, .none => .none
    | _, _, .bool b => .bool b
    | _, _, .int i => .int i
    | _, _, .str x => .str x
    | _, _, .tup h r => .tup h (go n r)
    | _, _, .lst h r => .lst (by
        rcases h with ⟨nn, h⟩ | h
        . refine .inl ⟨fun z => ?_, h⟩
          have e1 := n _ z nn
          rcases h with h | ⟨o, h⟩
          . rw [e1] at h; cases h
          . rw [e1] at h; cases h
        . exact .inr h) (go n r)
theorem Dzs.old {W W' : Addr -> Prop} {H H' : Hp} (e : Ev W H H') (n : ∀ a, W' a -> W a \/ H a = none) : ∀ {vs : List V} {ds : List Dat}, Dzs (fun a => ¬ W a) K H vs ds -> Dzs (fun a => ¬ W' a) K H' vs ds
    | _, _, .nil => .nil
    | _, _, .cons h r => .cons (go1 h) (Dzs.old e n r)
where
  go1 : ∀ {v : V} {d : Dat}, Dz (fun a => ¬ W a) K H v d -> Dz (fun a => ¬ W' a) K H' v d
    | _, _, .none => .none
    | _, _, .bool b => .bool b
    | _, _, .int i => .int i
    | _, _, .str x => .str x
    | _, _, .tup h r => .tup (e.tm _ _ _ h) (Dzs.old e n r)
    | _, _, .lst h r => .lst (by
        rcases h with ⟨nn, h⟩ | h
        . refine .inl ⟨fun z => ?_, ?_⟩
          . have e1 := (n _ z).resolve_left nn
            rcases h with h | ⟨o, h⟩
            . rw [e1] at h; cases h
            . rw [e1] at h; cases h
          . exact h.imp (e.keep _ _ nn) fun ⟨o, h⟩ => ⟨o, e.keep _ _ nn h⟩
        . exact .inr h) (Dzs.old e n r)
theorem dz_old {W W' : Addr -> Prop} {H H' : Hp} (e : Ev W H H') (n : ∀ a, W' a -> W a \/ H a = none) {v : V} {d : Dat} (h : Dz (fun a => ¬ W a) K H v d) : Dz (fun a => ¬ W' a) K H' v d := by
  cases Dzs.old e n (.cons h .nil) with
  | cons a _ => exact a
theorem S.letOC {C : List Dat -> Prop} {i : Nat} (h : E p K te τ (fun s => ∃ ds, s = .own ds /\ noLs ds = true /\ C ds)) (m : ∀ ds, C ds -> S p K u (τ.set i (.own ds)) nx rt) : S p K (tSeq (tAsg te (gName i)) u) τ nx rt := by
  refine S.seq (M := fun τ' => ∃ ds, C ds /\ τ' = τ.set i (.own ds)) (fun W L σ H D r o q1 q2 => ?_) fun τ' ⟨ds, c, e⟩ => e ▸ m ds c
  refine h W L σ H _ r o fun v H1 s c e o1 rv => ?_
  obtain ⟨ds, rfl, nl, cd⟩ := c
  obtain ⟨a, vs, rfl, h1, h2, h3⟩ := rv
  have nw := o.fresh h1
  have wid : ∀ b, (W b \/ b = a) -> ¬ W b -> H b = none := fun b hb nb => (hb.resolve_left nb) ▸ h1
  have r1 : Rs p (fun b => W b \/ b = a) K H1 L σ τ := (r.wide (fun _ h => .inl h) wid).ev e fun q hq => .inl (o.pw q hq)
  have al : a ∉ L := fun z => by obtain ⟨_, y⟩ := r.own_in a z; rw [h1] at y; cases y
  obtain ⟨L', l, r2⟩ := r1.setO (.inr rfl) (o.np h1) al h2 (h3.free nl) i
  refine q1 _ L' _ H1 _ ⟨ds, cd, rfl⟩ (e.ofP o) ⟨fun q hq => ⟨(o1.pu q hq).1, .inl (o1.pw q hq)⟩, fun b hb => ?_⟩ o1.al (fun b hb => hb.imp id fun (z : b = a) => by rw [z]; exact h1) (fun b hb => ?_) r2
  . rcases hb with hb | rfl
    . exact o1.al b hb
    . exact ⟨_, h2⟩
  . rcases l b hb with rfl | hb
    . exact .inr h1
    . exact .inl hb
theorem S.letO {ds : List Dat} {i : Nat} {τ' : List Sl} (h : E1 p K te τ (.own ds)) (nl : noLs ds = true) (m : S p K u τ' nx rt) (e : τ.set i (.own ds) = τ' := by rfl) : S p K (tSeq (tAsg te (gName i)) u) τ nx rt :=
  S.letOC (C := fun x => ds = x) (E.mono h fun s hs => ⟨ds, hs.symm, nl, rfl⟩) fun x hx => by subst hx; rw [e]; exact m
theorem Rs.chg (r : Rs p W K H L σ τ) {a : Addr} {vs0 vs : List V} (ha : W a) (h0 : H a = some (.lst vs0)) : a ∉ L -> Rs p W K (upd H a (.lst vs)) L σ τ := by
  have ev : Ev (fun b => b = a) H (upd H a (.lst vs)) := ⟨fun b o n h => by rw [upd_ne n]; exact h, Tm.lst h0 _⟩
  have nw : ∀ b, ¬ W b -> ¬ b = a := fun b n z => n (z ▸ ha)
  induction r with
  | nil => intro _; exact .nil
  | un _ ih => intro h; exact .un (ih h)
  | dat h _ ih => intro n; exact .dat (h.ev ev nw) (ih n)
  | pu h _ ih => intro n; exact .pu h (ih n)
  | own h1 h2 h3 h4 h5 _ ih =>
    intro n
    refine .own h1 h2 h3 ?_ (h5.ev ev nw) (ih fun z => n (List.mem_cons_of_mem _ z))
    rw [upd_ne (fun z => n (by rw [<- z]; exact List.mem_cons_self))]; exact h4
  | dt h1 h2 h3 h4 _ ih =>
    intro n
    exact .dt h1 h2 h3 (Own.ev _ h4 ev nw fun b o hb h => by rw [upd_ne (fun (z : b = a) => n (z ▸ List.mem_append_left _ hb))]; exact h) (ih fun z => n (List.mem_append_right _ z))
theorem Rs.chgO {a : Addr} {vs0 vs : List V} {ds : List Dat} (ha : W a) (h0 : H a = some (.lst vs0)) (hz : Dzs (fun a => ¬ W a) K (upd H a (.lst vs)) vs ds) : ∀ {L : List Addr} {σ : St} {τ : List Sl}, Rs p W K H L σ τ -> ∀ {i : Nat} {ds0 : List Dat}, τ[i]? = some (.own ds0) -> σ[i]? = some (some (.ref a)) -> Rs p W K (upd H a (.lst vs)) L σ (τ.set i (.own ds)) := by
  have ev : Ev (fun b => b = a) H (upd H a (.lst vs)) := ⟨fun b o n h => by rw [upd_ne n]; exact h, Tm.lst h0 _⟩
  have nw : ∀ b, ¬ W b -> ¬ b = a := fun b n z => n (z ▸ ha)
  intro L σ τ r
  induction r with
  | nil => intro i ds0 h; simp at h
  | un r ih =>
    intro i ds0 h e
    match i, h, e with
    | 0, h, _ => simp at h
    | i + 1, h, e => exact .un (ih (i := i) (by simpa using h) (by simpa using e))
  | dat y r ih =>
    intro i ds0 h e
    match i, h, e with
    | 0, h, _ => simp at h
    | i + 1, h, e => exact .dat (y.ev ev nw) (ih (i := i) (by simpa using h) (by simpa using e))
  | pu y r ih =>
    intro i ds0 h e
    match i, h, e with
    | 0, h, _ => simp at h
    | i + 1, h, e => exact .pu y (ih (i := i) (by simpa using h) (by simpa using e))
  | own h1 h2 h3 h4 h5 r ih =>
    intro i ds0 h e
    match i, h, e with
    | 0, h, e =>
      simp at e; subst e
      exact .own h1 h2 h3 upd_same hz (r.chg h1 h4 h3)
    | i + 1, h, e =>
      have e' : _ := e
      simp only [List.getElem?_cons_succ] at e'
      obtain ⟨a', vs', g1, g2, g3, g4, g5, g6⟩ := r.get_own (i := i) (by simpa using h)
      rw [e'] at g1; cases g1
      refine .own h1 h2 h3 ?_ (h5.ev ev nw) (ih (i := i) (by simpa using h) e')
      rw [upd_ne (fun z => h3 (by rw [z]; exact g4))]; exact h4
  | dt h1 h2 h3 h4 r ih =>
    intro i ds0 h e
    match i, h, e with
    | 0, h, e =>
      simp at h
    | i + 1, h, e =>
      have e' : _ := e
      simp only [List.getElem?_cons_succ] at e'
      obtain ⟨a', vs', g1, g2, g3, g4, g5, g6⟩ := r.get_own (i := i) (by simpa using h)
      rw [e'] at g1; cases g1
      exact .dt h1 h2 h3 (Own.ev _ h4 ev nw fun b o hb h => by rw [upd_ne (fun (z : b = a) => h3 b hb (z ▸ g4))]; exact h) (ih (i := i) (by simpa using h) e')
theorem S.append {i : Nat} {ds : List Dat} {C : Dat -> Prop} (h : τ[i]? = some (.own ds)) (he : E p K te τ (fun s => ∃ d, s = .dat d /\ noL d = true /\ C d)) (hz : ds.length < sizeLine) (m : ∀ d, C d -> nx (τ.set i (.own (ds ++ [d])))) : S p K (tDrop (tBM K "list" rAppend (tVar i) (tCons te tNil))) τ nx rt := fun W L σ H D r o q1 q2 => by
  obtain ⟨a, vs, e, w, n, l, h1, z⟩ := r.get_own h
  refine ⟨_, e, .inl ⟨rfl, _, SqL.of h1⟩, he W L σ H _ r o fun v H1 s c e1 o1 rv => ?_⟩
  obtain ⟨d, rfl, nl, cd⟩ := c
  have r1 := r.ev e1 o.pw
  obtain ⟨a', vs', e', w', n', l', h1', z'⟩ := r1.get_own h
  rw [e] at e'; cases e'
  have ev : Ev (fun b => b = a) H1 (upd H1 a (.lst (vs' ++ [v]))) := ⟨fun b o n h => by rw [upd_ne n]; exact h, Tm.lst h1' _⟩
  have nw : ∀ b, ¬ W b -> ¬ b = a := fun b n z => n (z ▸ w)
  refine ⟨a, vs', v, rfl, rfl, h1', by rw [z'.len]; exact hz, ?_⟩
  refine q1 W L σ _ _ (m d cd) ((e1.ofP o).trans (ev.mono fun b hb => hb ▸ w)) ⟨fun q hq => ⟨?_, o1.pw q hq⟩, fun b hb => ?_⟩ ?_ (fun _ h => .inl h) (fun _ h => .inl h) (Rs.chgO w h1' ((z'.app (.cons rv .nil)).ev ev nw) r1 h e)
  . obtain ⟨x, y, u⟩ := (o1.pu q hq).1
    exact ⟨x, y, by rw [upd_ne (fun z => n' (by rw [<- z]; exact hq))]; exact u⟩
  all_goals
    first
    | (by_cases z : b = a
       . subst z; exact ⟨_, upd_same⟩
       . rw [upd_ne z]; exact o1.al b hb)
    | (intro b hb
       by_cases z : b = a
       . subst z; exact ⟨_, upd_same⟩
       . rw [upd_ne z]; exact o1.al b hb)
theorem S.append1 {i : Nat} {ds : List Dat} {d : Dat} {τ' : List Sl} (h : τ[i]? = some (.own ds)) (he : E1 p K te τ (.dat d)) (nl : noL d = true) (hz : ds.length < sizeLine) (m : nx τ') (e : τ.set i (.own (ds ++ [d])) = τ' := by rfl) : S p K (tDrop (tBM K "list" rAppend (tVar i) (tCons te tNil))) τ nx rt :=
  S.append (C := fun x => d = x) h (E.mono he fun s hs => ⟨d, hs.symm, nl, rfl⟩) hz fun x hx => by subst hx; rw [e]; exact m
end
end D
end
section
namespace D
open PySem L2 K0
open PySem.W (Dat)
noncomputable def Jd (W : Addr -> Prop) (K : PySem.W.Frag) (J : It) (H : Hp) (ds : List Dat) : Prop := ∀ (W' : Addr -> Prop) (H' : Hp), Ev W H H' -> (∀ a, W' a -> W a \/ H a = none) -> J.stop ds.length H' /\ ∀ i d, ds[i]? = some d -> J.go i H' /\ ∀ y H2, J.yld i H' y H2 -> Same H' H2 /\ Dz (fun a => ¬ W' a) K H2 y d
section
variable (p : Option Addr) (K : PySem.W.Frag)
noncomputable def Wk (wi : TI) (τ : List Sl) (ds : List Dat) : Prop := ∀ (W : Addr -> Prop) (L : List Addr) (σ : St) (H : Hp) (R : It -> Hp -> Prop), Rs p W K H L σ τ -> Ok p W H -> (∀ J H1, Ev (Pp p) H H1 -> Ok p W H1 -> Jd W K J H1 ds -> R J H1) -> wi σ H R
noncomputable def Gd (g : TG) (d : Dat) (τ τ' : List Sl) : Prop := ∀ (W : Addr -> Prop) (L : List Addr) (σ : St) (H : Hp) (v : V) (Q : St -> Hp -> Prop), Rs p W K H L σ τ -> Dz (fun a => ¬ W a) K H v d -> (∀ L' σ', (∀ a, a ∈ L' -> a ∈ L) -> Rs p W K H L' σ' τ' -> Q σ' H) -> g v σ H Q
end
section
variable {p : Option Addr} {K : PySem.W.Frag} {W : Addr -> Prop} {L : List Addr} {σ : St} {H H1 H2 : Hp} {τ τ' : List Sl} {tb te : TE} {tas : TA} {v : V} {s : Sl} {nx : List Sl -> Prop} {rt : Sl -> Prop} {t u : TS} {ds : List Dat} {wi : TI}
theorem Wk.tup (h : E1 p K te τ (.dat (.tuple ds))) : Wk p K (iTup K te) τ ds := fun W L σ H R r o q => h W L σ H _ r o fun v H1 s e e1 o1 rv => by
  subst e
  cases rv with
  | tup h1 h2 =>
    rename_i a xs
    refine ⟨a, rfl, ⟨xs, h1⟩, q _ H1 e1 o1 fun W' H' ev n => ?_⟩
    have h1' := ev.tm _ _ _ h1
    have h2' := Dzs.old ev n h2
    refine ⟨⟨xs, h1', by rw [h2.len]; exact Nat.le_refl _⟩, fun i d hd => ?_⟩
    obtain ⟨x, ex, zx⟩ := h2'.get hd
    exact ⟨⟨xs, x, h1', ex⟩, fun y H2 ⟨e, q⟩ => by
      subst e
      have := q xs h1'
      rw [ex] at this; cases this
      exact ⟨Same.refl _, zx⟩⟩
theorem Wk.lst (h : E1 p K te τ (.dat (.list ds))) : Wk p K (iList K te) τ ds := fun W L σ H R r o q => h W L σ H _ r o fun v H1 s e e1 o1 rv => by
  subst e
  cases rv with
  | lst h1 h2 =>
    rename_i a xs
    refine ⟨a, rfl, ⟨xs, h1.sq⟩, q _ H1 e1 o1 fun W' H' ev n => ?_⟩
    have h1' : SqL K H' a xs := by
      rcases h1 with ⟨nn, h1⟩ | h1
      . exact .inl (h1.imp (ev.keep _ _ nn) fun ⟨o, h⟩ => ⟨o, ev.keep _ _ nn h⟩)
      . exact SqN.sq (N := fun _ => True) (.inr h1)
    have h2' := Dzs.old ev n h2
    refine ⟨⟨xs, h1', by rw [h2.len]; exact Nat.le_refl _⟩, fun i d hd => ?_⟩
    obtain ⟨x, ex, zx⟩ := h2'.get hd
    exact ⟨⟨xs, x, h1', ex⟩, fun y H2 ⟨e, q⟩ => by
      subst e
      have := q xs h1'
      rw [ex] at this; cases this
      exact ⟨Same.refl _, zx⟩⟩
noncomputable def rangeD (lo : Int) (n : Nat) : List Dat := (List.range n).map fun (i : Nat) => .int (lo + i)
theorem rangeD_get {lo : Int} {n i : Nat} {d : Dat} (h : (rangeD lo n)[i]? = some d) : i < n /\ d = .int (lo + i) := by
  unfold rangeD at h
  rw [List.getElem?_map] at h
  cases e : (List.range n)[i]? with
  | none => rw [e] at h; cases h
  | some j =>
    rw [e] at h; cases h
    have hi : i < n := by simpa using (List.getElem?_eq_some_iff.mp e).1
    have hj : j = i := by
      have := (List.getElem?_eq_some_iff.mp e).2
      simpa using this.symm
    subst hj
    exact ⟨hi, rfl⟩
theorem rangeD_len {lo : Int} {n : Nat} : (rangeD lo n).length = n := by unfold rangeD; simp
theorem jd_rng {lo : Int} {n : Nat} : Jd W K (Itr lo n) H (rangeD lo n) := fun W' H' ev nn => ⟨by show n <= _; rw [rangeD_len]; exact Nat.le_refl _, fun i d hd => by
  obtain ⟨hi, rfl⟩ := rangeD_get hd
  exact ⟨hi, fun y H2 ⟨e1, e2⟩ => by subst e1 e2; exact ⟨Same.refl _, .int _⟩⟩⟩
theorem Wk.rng {j : Int} {n : Nat} (h : A1 p K tas τ [.dat (.int j)]) (hn : j.toNat = n) (h1 : -(2 ^ 62) <= j := by decide) (h2 : j < 2 ^ 62 := by decide) : Wk p K (iRng1 tas) τ (rangeD 0 n) := fun W L σ H R r o q => h W L σ H _ r o fun vs H1 ss e e1 o1 rv => by
  subst e hn
  cases rv with
  | cons a t =>
    cases t
    cases a.int_inv
    exact ⟨j, rfl, h1, h2, q _ H1 e1 o1 jd_rng⟩
theorem Gd.name {i : Nat} {d : Dat} (e : τ.set i (.dat d) = τ' := by rfl) : Gd p K (gName i) d τ τ' := fun W L σ H v Q r z q => by
  obtain ⟨L', l, r'⟩ := r.set (v := v) (s := .dat d) (.inr (.inl ⟨d, rfl, z⟩)) i
  rw [e] at r'
  exact q L' _ l r'
theorem Gd.pair {i j : Nat} {x y : Dat} (e : (τ.set i (.dat x)).set j (.dat y) = τ' := by rfl) : Gd p K (gTup K 2 (gCons (gName i) (gCons (gName j) gNil))) (.tuple [x, y]) τ τ' := fun W L σ H v Q r z q => by
  cases z with
  | tup h1 h2 =>
    cases h2 with
    | cons za t =>
      cases t with
      | cons zb t =>
        cases t
        obtain ⟨L1, l1, r1⟩ := r.set (s := .dat x) (.inr (.inl ⟨x, rfl, za⟩)) i
        obtain ⟨L2, l2, r2⟩ := r1.set (s := .dat y) (.inr (.inl ⟨y, rfl, zb⟩)) j
        rw [e] at r2
        exact ⟨_, _, rfl, h1, rfl, _, _, rfl, _, _, rfl, rfl, q L2 _ (fun a h => l1 a (l2 a h)) r2⟩
theorem S.asgG {g : TG} {d : Dat} (h : E1 p K te τ (.dat d)) (hg : Gd p K g d τ τ') (m : nx τ') : S p K (tAsg te g) τ nx rt := fun W L σ H D r o q1 q2 => h W L σ H _ r o fun v H1 s e e1 o1 rv => by
  subst e
  exact hg W L σ H1 v _ (r.ev e1 o.pw) rv fun L' σ' l r' => q1 W L' σ' H1 _ m (e1.ofP o) o1 o1.al (fun _ h => .inl h) (fun a h => .inl (l a h)) r'
theorem S.letG {g : TG} {d : Dat} (h : E1 p K te τ (.dat d)) (hg : Gd p K g d τ τ') (m : S p K u τ' nx rt) : S p K (tSeq (tAsg te g) u) τ nx rt := S.seq (M := fun x => τ' = x) (S.asgG h hg rfl) fun x e => e ▸ m
theorem S.for {g : TG} {tb : TS} (hw : Wk p K wi τ ds) (I : Nat -> List Sl -> Prop) (h0 : I 0 τ) (turn : ∀ i d τ1, ds[i]? = some d -> I i τ1 -> ∃ τ2, Gd p K g d τ1 τ2 /\ S p K tb τ2 (I (i + 1)) rt) (done : ∀ τ1, I ds.length τ1 -> nx τ1) : S p K (tFor wi g tb) τ nx rt := fun W L σ H D r o q1 q2 => by
  refine hw W L σ H _ r o fun J H1 e1 o1 jd => ?_
  have ew := e1.ofP o
  have hn : ∀ a, H1 a = none -> H a = none := fun a ha => ew.none o1.al ha
  refine ⟨fun i m σ' H' => m = ds.length - i /\ i <= ds.length /\ ∃ (W' : Addr -> Prop) (L' : List Addr) (τ1 : List Sl), I i τ1 /\ Ev W H1 H' /\ Ok p W' H' /\ (∀ a, W a -> ∃ ys, H' a = some ys) /\ (∀ a, W' a -> W a \/ H1 a = none) /\ (∀ a, a ∈ L' -> a ∈ L \/ H1 a = none) /\ Rs p W' K H' L' σ' τ1,
    ⟨ds.length, by omega, Nat.zero_le _, W, L, τ, h0, Ev.refl, o1, o1.al, fun _ h => .inl h, fun _ h => .inl h, r.ev e1 o.pw⟩, ?_⟩
  rintro i m σ' H' ⟨rfl, hi, W', L', τ1, hI, ev, ok, al, nn, ll, rs⟩
  obtain ⟨stop, each⟩ := jd W' H' ev nn
  by_cases hlt : i < ds.length
  . have hd : ds[i]? = some ds[i] := by simp [hlt]
    obtain ⟨go, yl⟩ := each i _ hd
    obtain ⟨τ2, hg, hb⟩ := turn i _ τ1 hd hI
    refine .inr ⟨go, fun σ'' H'' => ds.length - (i + 1) = ds.length - (i + 1) /\ i + 1 <= ds.length /\ ∃ (W' : Addr -> Prop) (L' : List Addr) (τ1 : List Sl), I (i + 1) τ1 /\ Ev W H1 H'' /\ Ok p W' H'' /\ (∀ a, W a -> ∃ ys, H'' a = some ys) /\ (∀ a, W' a -> W a \/ H1 a = none) /\ (∀ a, a ∈ L' -> a ∈ L \/ H1 a = none) /\ Rs p W' K H'' L' σ'' τ1, fun σ'' H'' h => ⟨_, by omega, h⟩, fun x H2 y => ?_⟩
    obtain ⟨s2, z2⟩ := yl x H2 y
    have e2 : Ev (Pp p) H' H2 := Ev.of s2
    have o2 := ok.same s2
    have ev2 : Ev W H1 H2 := ev.trans (Ev.of s2)
    have al2 : ∀ a, W a -> ∃ ys, H2 a = some ys := fun a ha => let ⟨ys, h⟩ := al a ha; ⟨ys, s2 _ _ h⟩
    have hn2 : ∀ a, H2 a = none -> H1 a = none := fun a ha => ev2.none al2 ha
    refine hg W' L' σ' H2 x _ (rs.ev e2 ok.pw) z2 fun L3 σ3 l3 rs3 => ?_
    refine hb W' L3 σ3 H2 _ rs3 o2 (fun W4 L4 σ4 H4 τ4 c e4 o4 w4 n4 l4 r4 => ?_) (fun W4 H4 v s c e4 o4 w4 n4 rv => ?_)
    . exact ⟨rfl, hlt, W4, L4, τ4, c, ev2.chain e4 nn, o4, al_chain al2 w4 e4, fun a ha => (n4 a ha).elim (nn a) fun z => .inr (hn2 a z), fun a ha => (l4 a ha).elim (fun z => ll a (l3 a z)) fun z => .inr (hn2 a z), r4⟩
    . have nn' : ∀ a, W' a -> W a \/ H a = none := fun a ha => (nn a ha).imp id (hn a)
      refine q2 W4 H4 v s c ((ew.trans ev2).chain e4 nn') o4 (al_chain al2 w4 e4) (fun a ha => (n4 a ha).elim (nn' a) fun z => .inr (hn a (hn2 a z))) (rv.base (fun a z => hn a (hn2 a z)) fun a ha => ?_)
      exact (ll a (l3 a ha)).imp id (hn a)
  . have e : i = ds.length := by omega
    subst e
    exact .inl ⟨stop, q1 W' L' σ' H' τ1 (done τ1 hI) (ew.trans ev) ok al (fun a ha => (nn a ha).imp id (hn a)) (fun a ha => (ll a ha).imp id (hn a)) rs⟩
theorem S.while {tc : TT} {tb : TS} (I : Nat -> List Sl -> Prop) {m0 : Nat} (h0 : I m0 τ) (turn : ∀ m τ1, I m τ1 -> ∃ C : Bool -> Prop, T p K tc τ1 C /\ (C true -> S p K tb τ1 (fun τ2 => ∃ m', m' < m /\ I m' τ2) rt) /\ (C false -> nx τ1)) : S p K (tWhile tc tb) τ nx rt := fun W L σ H D r o q1 q2 => by
  refine ⟨fun m σ' H' => ∃ (W' : Addr -> Prop) (L' : List Addr) (τ1 : List Sl), I m τ1 /\ Ev W H H' /\ Ok p W' H' /\ (∀ a, W a -> ∃ ys, H' a = some ys) /\ (∀ a, W' a -> W a \/ H a = none) /\ (∀ a, a ∈ L' -> a ∈ L \/ H a = none) /\ Rs p W' K H' L' σ' τ1,
    ⟨m0, W, L, τ, h0, Ev.refl, o, o.al, fun _ h => .inl h, fun _ h => .inl h, r⟩, ?_⟩
  rintro m σ' H' ⟨W', L', τ1, hI, ev, ok, al, nn, ll, rs⟩
  obtain ⟨C, ht, hb, hx⟩ := turn m τ1 hI
  refine ht W' L' σ' H' _ rs ok fun b H2 c e2 o2 => ?_
  have e2w := e2.ofP ok
  have hn0 : ∀ a, H2 a = none -> H' a = none := fun a ha => e2w.none o2.al ha
  have ev2 : Ev W H H2 := ev.chain e2w nn
  have al2 : ∀ a, W a -> ∃ ys, H2 a = some ys := al_chain al o2.al e2w
  have hn2 : ∀ a, H2 a = none -> H a = none := fun a ha => ev2.none al2 ha
  have rs2 := rs.ev e2 ok.pw
  cases b with
  | false => rw [if_neg (by decide)]; exact q1 W' L' σ' H2 τ1 (hx c) ev2 o2 al2 nn ll rs2
  | true =>
    rw [if_pos rfl]
    refine ⟨fun σ4 H4 => ∃ m', m' < m /\ ∃ (W' : Addr -> Prop) (L' : List Addr) (τ1 : List Sl), I m' τ1 /\ Ev W H H4 /\ Ok p W' H4 /\ (∀ a, W a -> ∃ ys, H4 a = some ys) /\ (∀ a, W' a -> W a \/ H a = none) /\ (∀ a, a ∈ L' -> a ∈ L \/ H a = none) /\ Rs p W' K H4 L' σ4 τ1, fun σ4 H4 h => h, ?_⟩
    refine hb c W' L' σ' H2 _ rs2 o2 (fun W4 L4 σ4 H4 τ4 c e4 o4 w4 n4 l4 r4 => ?_) (fun W4 H4 v s c e4 o4 w4 n4 rv => ?_)
    . obtain ⟨m', hm, hI'⟩ := c
      exact ⟨m', hm, W4, L4, τ4, hI', ev2.chain e4 nn, o4, al_chain al2 w4 e4, fun a ha => (n4 a ha).elim (nn a) fun z => .inr (hn2 a z), fun a ha => (l4 a ha).elim (ll a) fun z => .inr (hn2 a z), r4⟩
    . exact q2 W4 H4 v s c (ev2.chain e4 nn) o4 (al_chain al2 w4 e4) (fun a ha => (n4 a ha).elim (nn a) fun z => .inr (hn2 a z)) (rv.base hn2 ll)
end
end D
end
section
namespace D
open PySem L2 K0
open PySem.W (Dat)
section
variable {p : Option Addr} {K : PySem.W.Frag} {W : Addr -> Prop} {L : List Addr} {σ : St} {H H1 H2 : Hp} {τ : List Sl} {te : TE} {v : V} {s : Sl} {nx : List Sl -> Prop} {u : TS} {ds : List Dat} {wi : TI} {tt : TT}
noncomputable def Gc (p : Option Addr) (K : PySem.W.Frag) (no : Nat) (g : TG) (d : Dat) (own : List Sl) : Prop := ∀ (W : Addr -> Prop) (L : List Addr) (ρ σ : St) (τ : List Sl) (H : Hp) (v : V) (Q : St -> Hp -> Prop), ρ.length = no -> Rs p W K H L σ τ -> Dz (fun a => ¬ W a) K H v d -> (∀ ρ', ρ'.length = no -> Rs p W K H L (ρ' ++ σ) (own ++ τ) -> Q (ρ' ++ σ) H) -> g v (ρ ++ σ) H Q
theorem Gc.name {d : Dat} : Gc p K 1 (gName 0) d [.dat d] := fun W L ρ σ τ H v Q l r z q => by
  match ρ, l with
  | [o], _ => exact q [some v] rfl (.dat z r)
theorem Rs.evx {X : Addr -> Prop} {H' : Hp} (r : Rs p W K H L σ τ) (e : Ev X H H') (nx : ∀ a, ¬ W a -> ¬ X a) (no : ∀ a o, H a = some o -> p ≠ some a -> ¬ X a) : Rs p W K H' L σ τ := by
  induction r with
  | nil => exact .nil
  | un _ ih => exact .un ih
  | dat h _ ih => exact .dat (h.ev e nx) ih
  | pu h _ ih => exact .pu h ih
  | own h1 h2 h3 h4 h5 _ ih => exact .own h1 h2 h3 (e.keep _ _ (no _ _ h4 h2) h4) (h5.ev e nx) ih
  | dt h1 h2 h3 h4 _ ih => exact .dt h1 h2 h3 (Own.ev _ h4 e nx fun b o hb h => e.keep _ _ (no _ _ h (h2 b hb)) h) ih
theorem E.comp {no : Nat} {g : TG} (hw : Wk p K wi τ ds) (own : Dat -> List Sl) (hg : ∀ d, d ∈ ds -> Gc p K no g d (own d)) (kp : Dat -> Bool) (Cd : Dat -> Dat -> Prop) (ht : ∀ d, d ∈ ds -> T1 p K tt (own d ++ τ) (kp d))
    (turn : ∀ d, d ∈ ds -> kp d = true -> E p K te (own d ++ τ) (fun s => ∃ e, s = .dat e /\ Cd d e)) (hz : ds.length <= sizeLine) :
    E p K (tCompB no wi g tt te) τ (fun s => ∃ es, s = .own es /\ es.length = (ds.filter kp).length /\ ∀ (i : Nat) (e : Dat), es[i]? = some e -> ∃ d, (ds.filter kp)[i]? = some d /\ Cd d e) := fun W L σ H Q r o q => by
  refine hw W L σ H _ r o fun J H1 e1 o1 jd => ?_
  intro D hD
  have nD := o1.fresh hD
  have pD := o1.np hD
  have r1 := r.ev e1 o.pw
  have r1' : Rs p (fun b => W b \/ b = D) K H1 L σ τ := r1.wide (fun _ h => .inl h) fun b hb nb => (hb.resolve_left nb) ▸ hD
  refine ⟨fun i m σ' H' => m = ds.length - i /\ i <= ds.length /\ (∃ ρ, ρ.length = no /\ σ' = ρ ++ σ) /\ Ev (fun a => Pp p a \/ a = D) H1 H' /\ (∀ q, p = some q -> Pu H' q) /\ ∃ (vs : List V) (es : List Dat), H' D = some (.lst vs) /\ Dzs (fun b => ¬ (W b \/ b = D)) K H' vs es /\ es.length = ((ds.take i).filter kp).length /\ ∀ (j : Nat) (e : Dat), es[j]? = some e -> ∃ d, ((ds.take i).filter kp)[j]? = some d /\ Cd d e,
    ⟨ds.length, by omega, Nat.zero_le _, ⟨List.replicate no none, by simp, rfl⟩, ⟨fun b u nb h => by rw [upd_ne (fun z => nb (.inr z))]; exact h, (Same.new hD _).tm⟩, fun q hq => (o1.pu q hq).1.same (Same.new hD _), [], [], upd_same, .nil, by simp, fun j e h => by simp at h⟩, ?_⟩
  rintro i m σ' H' ⟨rfl, hi, ⟨ρ, lρ, rfl⟩, ev, pu, vs, es, hv, zv, le, hes⟩
  have evW : Ev W H1 H' := ⟨fun b u nb h => ev.keep b u (fun z => z.elim (fun y => nb (o1.pw b y)) fun y => by rw [y] at h; rw [hD] at h; cases h) h, ev.tm⟩
  have ok' : Ok p (fun b => W b \/ b = D) H' := ⟨fun q hq => ⟨pu q hq, .inl (o1.pw q hq)⟩, fun b hb => by
    by_cases z : b = D
    . subst z; exact ⟨_, hv⟩
    . by_cases y : p = some b
      . obtain ⟨x1, x2, h⟩ := pu b y; exact ⟨_, h⟩
      . obtain ⟨ys, h⟩ := o1.al b (hb.resolve_right z)
        exact ⟨ys, ev.keep _ _ (fun w => w.elim y z) h⟩⟩
  have evD : Ev (fun b => W b \/ b = D) H1 H' := evW.mono fun _ h => .inl h
  have rs' : Rs p (fun b => W b \/ b = D) K H' L σ τ := by
    refine Rs.evx r1' ev (fun a ha z => ?_) fun a u ha np z => ?_
    . rcases z with z | z
      . exact ha (.inl (o1.pw a z))
      . exact ha (.inr z)
    . rcases z with z | z
      . exact np z
      . rw [z, hD] at ha; cases ha
  obtain ⟨stop, each⟩ := jd (fun b => W b \/ b = D) H' evW fun a ha => ha.imp id fun z => by rw [z]; exact hD
  have o1f : H D = none := o1.back e1 hD
  by_cases hlt : i < ds.length
  . have hd : ds[i]? = some ds[i] := by simp [hlt]
    have hm : ds[i] ∈ ds := List.getElem_mem hlt
    obtain ⟨go, yl⟩ := each i _ hd
    have tk : ds.take (i + 1) = ds.take i ++ [ds[i]] := by rw [List.take_add_one]; simp [hlt]
    refine .inr ⟨go, fun x H2 y => ?_⟩
    obtain ⟨s2, z2⟩ := yl x H2 y
    have ok2 := ok'.same s2
    refine hg _ hm _ L ρ σ τ H2 x _ lρ (rs'.ev (Ev.of s2) ok'.pw) z2 fun ρ' lρ' rs2 => ?_
    refine ht _ hm _ L _ H2 _ rs2 ok2 fun b H4 eb e4 o4 => ?_
    have pvH : Ev (fun a => Pp p a \/ a = D) H' H4 := (Ev.of s2).trans (e4.mono fun _ h => .inl h)
    have hv4 : H4 D = some (.lst vs) := e4.keep _ _ pD (s2 _ _ hv)
    have zv4 : Dzs (fun b => ¬ (W b \/ b = D)) K H4 vs es := (zv.ev (W := fun _ => False) (Ev.of s2) fun _ _ h => h).ev e4 fun a ha z => ha (.inl (o1.pw a z))
    subst eb
    by_cases hk : kp ds[i] = true
    . rw [if_pos hk]
      refine turn _ hm hk _ L _ H4 _ (rs2.ev e4 ok2.pw) o4 fun v H5 s c e5 o5 rv => ?_
      obtain ⟨e, rfl, ce⟩ := c
      have hv5 : H5 D = some (.lst vs) := e5.keep _ _ pD hv4
      have zv5 := zv4.ev e5 fun a ha z => ha (.inl (o1.pw a z))
      have ll : vs.length <= i := by rw [zv.len, le]; exact Nat.le_trans (List.length_filter_le _ _) (by rw [List.length_take]; omega)
      have evu : Ev (fun b => b = D) H5 (upd H5 D (.lst (vs ++ [v]))) := ⟨fun b o n h => by rw [upd_ne n]; exact h, Tm.lst hv5 _⟩
      refine ⟨vs, hv5, by omega, ds.length - (i + 1), by omega, rfl, hlt, ⟨ρ', lρ', rfl⟩, (ev.trans (pvH.trans (e5.mono fun _ h => .inl h))).trans (evu.mono fun _ h => .inr h), fun q hq => ?_, vs ++ [v], es ++ [e], upd_same, (zv5.app (.cons rv .nil)).ev evu fun b hb z => hb (.inr z), ?_, fun j f hj => ?_⟩
      . obtain ⟨x1, x2, h⟩ := (o5.pu q hq).1
        exact ⟨x1, x2, by rw [upd_ne (fun z => pD (by rw [<- z]; exact hq))]; exact h⟩
      . rw [tk, List.filter_append, List.length_append, List.length_append, le]; simp [hk]
      . rw [tk, List.filter_append]
        have h1 : [ds[i]].filter kp = [ds[i]] := by simp [hk]
        rw [h1]
        by_cases hj2 : j < es.length
        . rw [List.getElem?_append_left hj2] at hj
          rw [List.getElem?_append_left (by rw [<- le]; exact hj2)]
          exact hes j f hj
        . rw [List.getElem?_append_right (by omega)] at hj
          have ej : j - es.length = 0 := by
            have := (List.getElem?_eq_some_iff.mp hj).1
            simp at this; omega
          rw [ej] at hj
          cases hj
          rw [List.getElem?_append_right (by omega), <- le, ej]
          exact ⟨_, rfl, ce⟩
    . rw [if_neg hk]
      refine ⟨ds.length - (i + 1), by omega, rfl, hlt, ⟨ρ', lρ', rfl⟩, ev.trans pvH, fun q hq => (o4.pu q hq).1, vs, es, hv4, zv4, ?_, fun j f hj => ?_⟩
      . rw [tk, List.filter_append, List.length_append, le]; simp [hk]
      . obtain ⟨d, h1, h2⟩ := hes j f hj
        rw [tk, List.filter_append]
        have h3 : [ds[i]].filter kp = [] := by simp [hk]
        rw [h3, List.append_nil]
        exact ⟨d, h1, h2⟩
  . have e : i = ds.length := by omega
    subst e
    rw [List.take_length] at le hes
    have evP : Ev (Pp p) H1 H' := ⟨fun b u nb h => ev.keep b u (fun z => z.elim nb fun y => by rw [y] at h; rw [hD] at h; cases h) h, ev.tm⟩
    refine .inl ⟨stop, q _ H' _ ⟨es, rfl, le, hes⟩ (e1.trans evP) (o1.ev evP pu) ⟨D, vs, rfl, o1f, hv, zv.mono fun a ha z => ha (.inl z)⟩⟩
end
end D
end
section
namespace D
open PySem L2 K0
open PySem.W (Dat)
section
variable {p : Option Addr} {K : PySem.W.Frag} {W : Addr -> Prop} {L : List Addr} {σ : St} {H H0 H1 : Hp} {τ τ' : List Sl} {ta tb te : TE} {tas : TA} {v : V} {s : Sl} {t : TS} {ds : List Dat} {wi : TI} {tt : TT}
theorem T1.all : T1 p K tAll τ true := fun W L σ H Q r o q => q true H rfl Ev.refl o
theorem filter_true (ds : List Dat) : ds.filter (fun _ => true) = ds := List.filter_eq_self.mpr fun _ _ => rfl
theorem E.compC {Cd : Dat -> Dat -> Prop} (hw : Wk p K wi τ ds) (turn : ∀ d, d ∈ ds -> E p K te (.dat d :: τ) (fun s => ∃ e, s = .dat e /\ Cd d e)) (hz : ds.length <= sizeLine) :
    E p K (tCompB 1 wi (gName 0) tAll te) τ (fun s => ∃ es, s = .own es /\ es.length = ds.length /\ ∀ (i : Nat) (e : Dat), es[i]? = some e -> ∃ d, ds[i]? = some d /\ Cd d e) := by
  have h := E.comp (tt := tAll) hw (fun d => [.dat d]) (fun d _ => Gc.name) (fun _ => true) Cd (fun _ _ => T1.all) (fun d hd _ => turn d hd) hz
  rw [filter_true] at h
  exact h
theorem map_of {f : Dat -> Dat} {es : List Dat} (l : es.length = ds.length) (h : ∀ (i : Nat) (e : Dat), es[i]? = some e -> ∃ d, ds[i]? = some d /\ f d = e) : es = ds.map f := by
  apply List.ext_getElem?
  intro i
  rw [List.getElem?_map]
  cases q : es[i]? with
  | none =>
    have := List.getElem?_eq_none_iff.mp q
    rw [List.getElem?_eq_none (by omega)]; rfl
  | some e => obtain ⟨d, h1, h2⟩ := h i e q; rw [h1, <- h2]; rfl
theorem E1.compM {f : Dat -> Dat} (hw : Wk p K wi τ ds) (turn : ∀ d, d ∈ ds -> E1 p K te (.dat d :: τ) (.dat (f d))) (hz : ds.length <= sizeLine) : E1 p K (tCompB 1 wi (gName 0) tAll te) τ (.own (ds.map f)) := by
  refine E.mono (E.compC (Cd := fun d e => f d = e) hw (fun d hd => E.mono (turn d hd) fun s hs => ⟨_, hs.symm, rfl⟩) hz) fun s hs => ?_
  obtain ⟨es, rfl, l, h⟩ := hs
  rw [map_of l h]
theorem E1.compF {f : Dat -> Dat} {kp : Dat -> Bool} (hw : Wk p K wi τ ds) (ht : ∀ d, d ∈ ds -> T1 p K tt (.dat d :: τ) (kp d)) (turn : ∀ d, d ∈ ds -> kp d = true -> E1 p K te (.dat d :: τ) (.dat (f d))) (hz : ds.length <= sizeLine) : E1 p K (tCompB 1 wi (gName 0) tt te) τ (.own ((ds.filter kp).map f)) := by
  refine E.mono (E.comp hw (fun d => [.dat d]) (fun d _ => Gc.name) kp (fun d e => f d = e) ht (fun d hd hk => E.mono (turn d hd hk) fun s hs => ⟨_, hs.symm, rfl⟩) hz) fun s hs => ?_
  obtain ⟨es, rfl, l, h⟩ := hs
  rw [map_of l h]
noncomputable def p1 : Dat -> Dat
  | .tuple [x, _] => x
  | d => d
noncomputable def p2 : Dat -> Dat
  | .tuple [_, y] => y
  | d => d
theorem E1.compI {ns : List Int} {g : Int -> Int} (hw : Wk p K wi τ (ns.map .int)) (turn : ∀ n, n ∈ ns -> E1 p K te (.dat (.int n) :: τ) (.dat (.int (g n)))) (hz : ns.length <= sizeLine) : E1 p K (tCompB 1 wi (gName 0) tAll te) τ (.own ((ns.map g).map .int)) := by
  have h := E1.compM (f := fun d => match d with | .int n => .int (g n) | d => d) hw (fun d hd => by
    obtain ⟨n, hn, rfl⟩ := List.mem_map.mp hd
    exact turn n hn) (by rw [List.length_map]; exact hz)
  rw [List.map_map] at h ⊢
  exact h
theorem E1.compIF {ns : List Int} {kp : Int -> Bool} (hw : Wk p K wi τ (ns.map .int)) (ht : ∀ n, n ∈ ns -> T1 p K tt (.dat (.int n) :: τ) (kp n)) (turn : ∀ n, n ∈ ns -> E1 p K te (.dat (.int n) :: τ) (.dat (.int n))) (hz : ns.length <= sizeLine) : E1 p K (tCompB 1 wi (gName 0) tt te) τ (.own ((ns.filter kp).map .int)) := by
  have h := E1.compF (f := id) (kp := fun d => match d with | .int n => kp n | d => false) hw (fun d hd => by
    obtain ⟨n, hn, rfl⟩ := List.mem_map.mp hd
    exact ht n hn) (fun d hd _ => by
    obtain ⟨n, hn, rfl⟩ := List.mem_map.mp hd
    exact turn n hn) (by rw [List.length_map]; exact hz)
  rw [List.map_id, List.filter_map] at h
  exact h
theorem E1.cb1 {r : List V -> Hp -> VK -> Prop} {a c : Sl} (ha : A1 p K tas τ [a]) (hr : ∀ (W : Addr -> Prop) (H0 H : Hp) (x : V) (Q : VK), Ok p W H0 -> Ok p W H -> Ev (Pp p) H0 H -> Rv p W K H0 H x a -> (∀ v H', Ev (Pp p) H H' -> Ok p W H' -> Rv p W K H0 H' v c -> Q v H') -> r [x] H Q) : E1 p K (tCB r tas) τ c := fun W L σ H Q rs o q =>
  ha W L σ H _ rs o fun vs H1 ss e e1 o1 rv => by
    subst e
    cases rv with
    | cons a t =>
      cases t
      exact hr W H H1 _ _ o o1 e1 a fun v H' e2 o2 rv => q v H' _ rfl (e1.trans e2) o2 rv
theorem E1.tupleL {ds : List Dat} (ha : A1 p K tas τ [.vw ds]) : E1 p K (tCB (fun xs H Q => ∃ p ys, xs = [.ref p] /\ ((SqL K H p ys /\ ∀ l, H l = none -> Q (.ref l) (upd H l (.tup ys))) \/ (SqT K H p ys /\ Q (.ref p) H))) tas) τ (.dat (.tuple ds)) :=
  E1.cb1 ha fun W H0 H x Q o0 o _ r q => by
    obtain ⟨a, vs, rfl, h1, h2⟩ := r
    refine ⟨a, vs, rfl, .inl ⟨h1.sq, fun l hl => ?_⟩⟩
    have s := Same.new hl (.tup vs)
    exact q _ _ (Ev.of s) (o.same s) (.tup (SqT.of upd_same) (h2.ev (W := Pp p) (Ev.of s) o.nw))
theorem E1.sum {ns : List Int} (ha : A1 p K tas τ [.vw (ns.map .int)]) : E1 p K (tCB (fun xs H Q => ∃ (a : Addr) (ns : List Int), xs = [.ref a] /\ SqL K H a (ns.map V.int) /\ Q (.int ns.sum) H) tas) τ (.dat (.int ns.sum)) :=
  E1.cb1 ha fun W H0 H x Q o0 o _ r q => by
    obtain ⟨a, vs, rfl, h1, h2⟩ := r
    have e := h2.inv
    subst e
    exact ⟨a, ns, rfl, h1.sq, q _ H Ev.refl o (.int _)⟩
theorem E1.lenL {ds : List Dat} (ha : A1 p K tas τ [.vw ds]) : E1 p K (tCB (fun xs H Q => ∃ p ys, xs = [.ref p] /\ (SqL K H p ys \/ SqT K H p ys) /\ Q (.int ys.length) H) tas) τ (.dat (.int ds.length)) :=
  E1.cb1 ha fun W H0 H x Q o0 o _ r q => by
    obtain ⟨a, vs, rfl, h1, h2⟩ := r
    refine ⟨a, vs, rfl, .inl h1.sq, ?_⟩
    rw [h2.len]
    exact q _ H Ev.refl o (.int _)
theorem E1.listOf {ds : List Dat} (ha : A1 p K tas τ [.vw ds]) : E1 p K (tCB (fun xs H Q => ∃ p ys, xs = [.ref p] /\ (SqL K H p ys \/ SqT K H p ys) /\ ∀ l, H l = none -> Q (.ref l) (upd H l (.lst ys))) tas) τ (.own ds) :=
  E1.cb1 ha fun W H0 H x Q o0 o ev r q => by
    obtain ⟨a, vs, rfl, h1, h2⟩ := r
    refine ⟨a, vs, rfl, .inl h1.sq, fun l hl => ?_⟩
    have s := Same.new hl (.lst vs)
    exact q _ _ (Ev.of s) (o.same s) ⟨l, vs, rfl, o.back ev hl, upd_same, h2.ev (W := Pp p) (Ev.of s) o.nw⟩
noncomputable def O1 (p : Option Addr) (K : PySem.W.Frag) (to : TO) (τ : List Sl) (i : Option Int) : Prop := ∀ (W : Addr -> Prop) (L : List Addr) (σ : St) (H : Hp) (Q : Option Int -> Hp -> Prop), Rs p W K H L σ τ -> Ok p W H -> (∀ H', Ev (Pp p) H H' -> Ok p W H' -> Q i H') -> to σ H Q
theorem E1.catT {xs ys : List Dat} (ha : E1 p K ta τ (.dat (.tuple xs))) (hb : E1 p K tb τ (.dat (.tuple ys))) (hz : xs.length + ys.length <= sizeLine) : E1 p K (tOp (rCatW K) ta tb) τ (.dat (.tuple (xs ++ ys))) :=
  E1.op2 ha hb fun W H0 H x y Q o0 o r1 r2 q => by
    cases r1 with
    | tup h1 h2 =>
      cases r2 with
      | tup h3 h4 =>
        refine ⟨_, _, _, _, rfl, rfl, h1, h3, by rw [h2.len, h4.len]; exact hz, fun a H' s h => ?_⟩
        exact q _ H' (Ev.of s) (o.same s) (.tup h ((h2.app h4).ev (W := Pp p) (Ev.of s) o.nw))
end
noncomputable def spP (K : PySem.W.Frag) (R : List Dat -> Dat -> Prop) : Sp := fun vs H Q _ => ∃ ds d, Dzs (fun _ => True) K H vs ds /\ R ds d /\ ∀ v H', Same H H' -> Dz (fun a => H a = none) K H' v d -> Q v H'
noncomputable def spU (K : PySem.W.Frag) (R : List Dat -> (Dat -> Prop) -> Prop) : Sp := fun vs H Q _ => ∃ q us ds C, vs = .ref q :: us /\ Dzs (fun a => a ≠ q) K H us ds /\ Pu H q /\ R ds C /\ ∀ v H' d, C d -> Ev (fun a => a = q) H H' -> Pu H' q -> Dz (fun a => H a = none) K H' v d -> Q v H'
section
variable {p : Option Addr} {K : PySem.W.Frag} {W : Addr -> Prop} {L : List Addr} {σ : St} {H H0 H1 : Hp} {τ τ' : List Sl} {ta tb te : TE} {tas : TA} {v : V} {s : Sl} {t : TS} {ds : List Dat} {E' : XK}
noncomputable def datsOf : List Sl -> Option (List Dat)
  | [] => some []
  | s :: r => match datOf s, datsOf r with
    | some d, some ds => some (d :: ds)
    | _, _ => none
theorem Rvs.dz {ss : List Sl} {vs : List V} (h : Rvs p W K H0 H vs ss) : ∀ {ds : List Dat}, datsOf ss = some ds -> Dzs (fun _ => True) K H vs ds := by
  induction h with
  | nil => intro ds e; cases e; exact .nil
  | cons a t ih =>
    rename_i v s vs ss
    intro ds e
    unfold datsOf at e
    cases e1 : datOf s with
    | none => rw [e1] at e; simp at e
    | some d =>
      cases e2 : datsOf ss with
      | none => rw [e1, e2] at e; simp at e
      | some r =>
        rw [e1, e2] at e; cases e
        refine .cons ?_ (ih e2)
        cases s with
        | un => cases e1
        | pu => cases e1
        | dat d' => cases e1; exact Dz.mono (fun _ _ => trivial) a
        | own ds => cases e1; obtain ⟨a, vs, rfl, _, h2, h3⟩ := a; exact .lst (.inl ⟨trivial, .inl h2⟩) (h3.mono fun _ _ => trivial)
        | dt ds => cases e1
        | vw ds => cases e1; obtain ⟨a, vs, rfl, h2, h3⟩ := a; exact .lst (h2.elim (fun z => .inl ⟨trivial, z.2⟩) .inr) (h3.mono fun _ _ => trivial)
theorem E1.call {R : List Dat -> Dat -> Prop} {ss : List Sl} {ds : List Dat} {d : Dat} (ha : A1 p K tas τ ss) (hr : R ds d) (hd : datsOf ss = some ds := by rfl) : E1 p K (tCall (spP K R) [] E' tas) τ (.dat d) := fun W L σ H Q rs o q => ha W L σ H _ rs o fun vs H1 ss e e1 o1 rv => by
  subst e
  rw [List.append_nil]
  exact ⟨ds, d, rv.dz hd, hr, fun v H' s z => q v H' _ rfl (e1.trans (Ev.of s)) (o1.same s) (z.mono fun a ha => o1.fresh ha)⟩
theorem Rvs.dzp {q : Addr} {vs : List V} {ds : List Dat} (h : Rvs (some q) W K H0 H vs (ds.map .dat)) (w : W q) : Dzs (fun a => a ≠ q) K H vs ds := h.dats.mono fun a n z => n (by rw [z]; exact w)
theorem E.callU {R : List Dat -> (Dat -> Prop) -> Prop} {ds : List Dat} {C : Dat -> Prop} (ha : A1 p K tas τ (.pu :: ds.map .dat)) (hr : R ds C) : E p K (tCall (spU K R) [] E' tas) τ (fun s => ∃ d, s = .dat d /\ C d) := fun W L σ H Q rs o q => ha W L σ H _ rs o fun vs H1 ss e e1 o1 rv => by
  subst e
  rw [List.append_nil]
  cases rv with
  | cons a t =>
    obtain ⟨q0, rfl, rfl⟩ := a
    have w := o1.pw q0 rfl
    refine ⟨q0, _, ds, C, rfl, Rvs.dzp t w, (o1.pu q0 rfl).1, hr, fun v H' d c ev pu z => ?_⟩
    have e2 : Ev (Pp (some q0)) H1 H' := ev.mono fun a h => by rw [h]; rfl
    exact q v H' _ ⟨d, rfl, c⟩ (e1.trans e2) (o1.ev e2 fun q hq => by cases hq; exact pu) (z.mono fun a ha => o1.fresh ha)
noncomputable def Gives (d : Dat) : Sl -> Prop
  | .dat e => d = e /\ noL d = true
  | .own ds => d = .list ds /\ noLs ds = true
  | _ => False
theorem rs_start {N : Addr -> Prop} : ∀ {vs : List V} {ds : List Dat} (n : Nat), Dzs N K H vs ds -> (∀ a, N a -> ¬ W a) -> Rs p W K H [] (vs.map some ++ List.replicate n none) (ds.map .dat ++ List.replicate n .un)
  | _, _, 0, .nil, _ => .nil
  | _, _, n + 1, .nil, h => by
    have := rs_start n (Dzs.nil (N := N) (K := K) (H := H)) h
    rw [List.replicate_succ, List.replicate_succ]
    exact .un this
  | _, _, n, .cons a r, h => .dat (a.mono h) (rs_start n r h)
variable {P : Program} {w : World} {mg : Str -> Option Value} {base : Heap}
theorem okP {x qual : Str} {st : Stmt} {f : Addr} {fd : FuncData} {N ps : List Str} {k : Nat} {R : List Dat -> Dat -> Prop} (F : Fun K x qual st f fd) (S0 : FnScope N ps (defScope st)) (len : ∀ ds d, R ds d -> ds.length = ps.length)
    (body : ∀ (cdv : Value) (A : Around) (outer : List Env) (s : Shared) (H : Hp) (E : XK), Room k (A.deeper (PyProof.Rows.envOfC qual (defScope st) s.heap.objs.size f cdv)) ->
      ∃ t, ZSs (cxOf CX0 P w K mg base N qual (defScope st) f cdv A outer s H E).nox (defBody st) t /\ ∀ ds d, R ds d -> S none K t (ds.map .dat ++ List.replicate (N.length - ps.length) .un) (fun _ => d = .none) (Gives d)) : FnOk P w K mg base CX0 (k + 1) f fd ps (spP K R) := by
  refine F.okZ S0 (fun vs H Q E h => ?_) (fun cdv A outer s H vs Q E hr h => ?_)
  . obtain ⟨ds, d, z, r, _⟩ := h; rw [z.len]; exact len ds d r
  . obtain ⟨ds, d, z, r, q⟩ := h
    obtain ⟨t, hz, hs⟩ := body cdv A outer s H E hr
    refine ⟨t, hz, ?_⟩
    have l : vs.length = ps.length := by rw [z.len]; exact len ds d r
    have r0 : Rs none (fun _ => False) K H [] (L2.start N vs) (ds.map .dat ++ List.replicate (N.length - ps.length) .un) := by
      unfold L2.start
      rw [l]
      exact rs_start _ z fun a _ h => h
    have same : ∀ {H' : Hp}, Ev (fun _ => False) H H' -> Same H H' := fun e b o h => e.keep b o (fun z => z) h
    refine hs ds d r (fun _ => False) [] _ H _ r0 ⟨fun q h => (by cases h), fun a h => False.elim h⟩ (fun W' L' σ' H' τ' e ev o' al n l r' => ?_) (fun W' H' v s e ev o' al n rv => ?_)
    . subst e; exact q .non H' (same ev) .none
    . cases s with
      | dat d' =>
        obtain ⟨rfl, nl⟩ := e
        exact q v H' (same ev) (Dz.free rv nl)
      | own es =>
        obtain ⟨rfl, nl⟩ := e
        obtain ⟨a, vs, rfl, h1, h2, h3⟩ := rv
        exact q _ H' (same ev) (.lst (.inl ⟨h1.resolve_left (fun z => by cases z), .inl h2⟩) (h3.free nl))
      | dt es => cases e
      | un => cases e
      | pu => cases e
      | vw ds => cases e
theorem okU {x qual : Str} {st : Stmt} {f : Addr} {fd : FuncData} {N ps : List Str} {k : Nat} {R : List Dat -> (Dat -> Prop) -> Prop} (F : Fun K x qual st f fd) (S0 : FnScope N ps (defScope st)) (len : ∀ ds C, R ds C -> ds.length + 1 = ps.length)
    (body : ∀ (cdv : Value) (A : Around) (outer : List Env) (s : Shared) (H : Hp) (E : XK), Room k (A.deeper (PyProof.Rows.envOfC qual (defScope st) s.heap.objs.size f cdv)) ->
      ∃ t, ZSs (cxOf CX0 P w K mg base N qual (defScope st) f cdv A outer s H E).nox (defBody st) t /\ ∀ (q : Addr) ds C, R ds C -> S (some q) K t (.pu :: ds.map .dat ++ List.replicate (N.length - ps.length) .un) (fun _ => False) (fun s => ∃ d, C d /\ Gives d s)) : FnOk P w K mg base CX0 (k + 1) f fd ps (spU K R) := by
  refine F.okZ S0 (fun vs H Q E h => ?_) (fun cdv A outer s H vs Q E hr h => ?_)
  . obtain ⟨q, us, ds, C, rfl, z, _, r, _⟩ := h; rw [List.length_cons, z.len]; exact len ds C r
  . obtain ⟨q0, us, ds, C, rfl, z, pu, r, q⟩ := h
    obtain ⟨t, hz, hs⟩ := body cdv A outer s H E hr
    refine ⟨t, hz, ?_⟩
    have l : (V.ref q0 :: us).length = ps.length := by rw [List.length_cons, z.len]; exact len ds C r
    have r0 : Rs (some q0) (fun a => a = q0) K H [] (L2.start N (.ref q0 :: us)) (.pu :: ds.map .dat ++ List.replicate (N.length - ps.length) .un) := by
      unfold L2.start
      rw [l]
      exact .pu rfl (rs_start _ z fun a h => h)
    have o0 : Ok (some q0) (fun a => a = q0) H := ⟨fun q h => (by cases h; exact ⟨pu, rfl⟩), fun a h => by obtain ⟨x, y, e⟩ := pu; exact ⟨_, by rw [h]; exact e⟩⟩
    refine hs q0 ds C r (fun a => a = q0) [] _ H _ r0 o0 (fun W' L' σ' H' τ' e ev o' al n l r' => e.elim) (fun W' H' v s e ev o' al n rv => ?_)
    obtain ⟨d, c, e⟩ := e
    cases s with
    | dat d' =>
      obtain ⟨rfl, nl⟩ := e
      exact q v H' _ c ev (o'.pu q0 rfl).1 (Dz.free rv nl)
    | own es =>
      obtain ⟨rfl, nl⟩ := e
      obtain ⟨a, vs, rfl, h1, h2, h3⟩ := rv
      exact q _ H' _ c ev (o'.pu q0 rfl).1 (.lst (.inl ⟨h1.resolve_left (fun z => by cases z), .inl h2⟩) (h3.free nl))
    | dt es => cases e
    | un => cases e
    | pu => cases e
    | vw ds => cases e
end
end D
end
section
namespace L2
open PySem PySem.Spec PyProof.Rows
open PySem.W (Dat)
end L2
namespace D
open PySem L2 K0 Num
open PySem.W (Dat)
noncomputable abbrev tI (ns : List Int) : Dat := .tuple (ns.map .int)
section
variable {p : Option Addr} {K : PySem.W.Frag} {W : Addr -> Prop} {L : List Addr} {σ : St} {H H0 H1 : Hp} {τ : List Sl} {ta tb te : TE} {tas : TA} {v : V} {s : Sl} {t : TS} {ds : List Dat} {E' : XK}
noncomputable def dOf : List Sl -> Option (List Dat)
  | [] => some []
  | .dat d :: r => match dOf r with
    | some ds => some (d :: ds)
    | none => none
  | _ => none
theorem dOf_eq : ∀ {ss : List Sl} {ds : List Dat}, dOf ss = some ds -> ss = ds.map .dat
  | [], ds, h => by cases h; rfl
  | .dat d :: r, ds, h => by
    unfold dOf at h
    cases e : dOf r with
    | none => rw [e] at h; cases h
    | some es => rw [e] at h; cases h; rw [dOf_eq e]; rfl
  | .un :: _, _, h => by cases h
  | .pu :: _, _, h => by cases h
  | .own _ :: _, _, h => by cases h
  | .dt _ :: _, _, h => by cases h
  | .vw _ :: _, _, h => by cases h
theorem E1.tu {ss : List Sl} {ds : List Dat} (h : A1 p K tas τ ss) (e : dOf ss = some ds) (hz : ds.length <= sizeLine) : E1 p K (tTup tas) τ (.dat (.tuple ds)) := E1.tup (dOf_eq e ▸ h) hz
theorem E1.li {ss : List Sl} {ds : List Dat} (h : A1 p K tas τ ss) (e : dOf ss = some ds) (hz : ds.length <= sizeLine) : E1 p K (tLst tas) τ (.own ds) := E1.lst (dOf_eq e ▸ h) hz
theorem tup_inv {N : Addr -> Prop} {ns : List Int} {v : V} (h : Dz N K H v (tI ns)) : ∃ a, v = .ref a /\ SqT K H a (ns.map V.int) := by
  cases h with
  | tup h1 h2 => have e := h2.inv; subst e; exact ⟨_, rfl, h1⟩
theorem told {N : Addr -> Prop} {ns : List Int} {r : Addr} (h : H r = some (.tup (ns.map V.int))) : Dz N K H (.ref r) (tI ns) := .tup (SqT.of h) (Dzs.ints _)
theorem E.c1 {sp : Sp} {ns : List Int} {C : Sl -> Prop} (ha : A1 p K tas τ [.dat (tI ns)]) (h : ∀ (W : Addr -> Prop) (H : Hp) (a : Addr) (Q : VK), SqT K H a (ns.map V.int) -> (∀ v H' s, C s -> Same H H' -> (∀ W, Rv p W K H H' v s) -> Q v H') -> sp [.ref a] H Q E') : E p K (tCall sp [] E' tas) τ C := fun W L σ H Q rs o q => ha W L σ H _ rs o fun vs H1 ss e e1 o1 rv => by
  subst e
  cases rv with
  | cons a t =>
    cases t
    obtain ⟨r, rfl, z⟩ := tup_inv a
    exact h W H1 r _ z fun v H' s c sm z => q v H' s c (e1.trans (Ev.of sm)) (o1.same sm) ((z W).base e1 o1)
theorem E.c2 {sp : Sp} {ns ms : List Int} {C : Sl -> Prop} (ha : A1 p K tas τ [.dat (tI ns), .dat (tI ms)]) (h : ∀ (W : Addr -> Prop) (H : Hp) (a b : Addr) (Q : VK), SqT K H a (ns.map V.int) -> SqT K H b (ms.map V.int) -> (∀ v H' s, C s -> Same H H' -> (∀ W, Rv p W K H H' v s) -> Q v H') -> sp [.ref a, .ref b] H Q E') : E p K (tCall sp [] E' tas) τ C := fun W L σ H Q rs o q => ha W L σ H _ rs o fun vs H1 ss e e1 o1 rv => by
  subst e
  cases rv with
  | cons a t =>
    cases t with
    | cons b t =>
      cases t
      obtain ⟨r, rfl, z⟩ := tup_inv a
      obtain ⟨r2, rfl, z2⟩ := tup_inv b
      exact h W H1 r r2 _ z z2 fun v H' s c sm z => q v H' s c (e1.trans (Ev.of sm)) (o1.same sm) ((z W).base e1 o1)
theorem E1.cT {pre : List Int -> Prop} {fn : List Int -> List Int} {ns : List Int} (ha : A1 p K tas τ [.dat (tI ns)]) (hl : ns.length <= 1000) (hp : pre ns) : E1 p K (tCall (spT K pre fn) [] E' tas) τ (.dat (tI (fn ns))) :=
  E.c1 ha fun W H a Q z q => ⟨a, ns, rfl, z, hl, hp, fun r H' s h => q _ H' _ rfl s fun W => told h⟩
theorem E1.cSize {ns : List Int} (ha : A1 p K tas τ [.dat (tI ns)]) (hl : ns.length <= 1000) (hs : Sm ns) : E1 p K (tCall (spSize K) [] E' tas) τ (.dat (.int (sop ns ns))) :=
  E.c1 ha fun W H a Q z q => ⟨a, ns, rfl, z, hl, hs, fun H' s => q _ H' _ rfl s fun W => .int _⟩
theorem E1.cSop {ns ms : List Int} (ha : A1 p K tas τ [.dat (tI ns), .dat (tI ms)]) (l1 : ns.length <= 1000) (l2 : ms.length = ns.length) (s1 : Sm ns) (s2 : Sm ms) : E1 p K (tCall (spSop K) [] E' tas) τ (.dat (.int (sop ns ms))) :=
  E.c2 ha fun W H a b Q z z2 q => ⟨a, b, ns, ms, rfl, z, z2, l1, l2, s1, s2, fun H' s => q _ H' _ rfl s fun W => .int _⟩
theorem E.ci2 {sp : Sp} {a b : Int} {C : Sl -> Prop} (ha : A1 p K tas τ [.dat (.int a), .dat (.int b)]) (h : ∀ (H : Hp) (Q : VK), (∀ v H' s, C s -> Same H H' -> (∀ W, Rv p W K H H' v s) -> Q v H') -> sp [.int a, .int b] H Q E') : E p K (tCall sp [] E' tas) τ C := fun W L σ H Q rs o q => ha W L σ H _ rs o fun vs H1 ss e e1 o1 rv => by
  subst e
  cases rv with
  | cons a t =>
    cases t with
    | cons b t =>
      cases t
      cases a.int_inv
      cases b.int_inv
      exact h H1 _ fun v H' s c sm z => q v H' s c (e1.trans (Ev.of sm)) (o1.same sm) ((z W).base e1 o1)
theorem E1.cDiv {a b : Int} (ha : A1 p K tas τ [.dat (.int a), .dat (.int b)]) : E1 p K (tCall spDiv [] E' tas) τ (.dat (.int ((Nat.gcd a.natAbs b.natAbs : Nat) : Int))) :=
  E.ci2 ha fun H Q q => ⟨a, b, rfl, q _ H _ rfl (Same.refl _) fun W => .int _⟩
theorem sb_ev {q : Addr} {H H' : Hp} (s : SB q H H') (pu : Pu H q) : Ev (Pp (some q)) H H' := ⟨fun b o n h => s b o (fun z => n (by rw [z]; rfl)) h, by obtain ⟨x, y, e⟩ := pu; exact s.tm e⟩
noncomputable def EI (p : Option Addr) (K : PySem.W.Frag) (te : TE) (τ : List Sl) (P : Int -> Prop) : Prop := E p K te τ (fun s => ∃ i, s = .dat (.int i) /\ P i)
theorem EI.of {i : Int} {P : Int -> Prop} (h : E1 p K te τ (.dat (.int i))) (hp : P i) : EI p K te τ P := E.mono h fun s e => ⟨i, e.symm, hp⟩
theorem EI.mono {P P' : Int -> Prop} (h : EI p K te τ P) (m : ∀ i, P i -> P' i) : EI p K te τ P' := E.mono h fun s ⟨i, e, hp⟩ => ⟨i, e, m i hp⟩
theorem EI.op {g : Int -> Int -> Int} {P Q : Int -> Prop} (ha : EI p K ta τ P) (hb : EI p K tb τ Q) : EI p K (tOp (rI0 fun i j => .int (g i j)) ta tb) τ (fun k => ∃ i j, P i /\ Q j /\ k = g i j) :=
  E.op2 (B := fun _ => True) ha (fun _ _ => hb) fun s t ⟨i, e1, h1⟩ ⟨j, e2, h2⟩ W H0 H x y R o0 o r1 r2 q => by
    subst e1 e2
    exact ⟨i, j, r1.int_inv, r2.int_inv, q _ H _ ⟨_, rfl, i, j, h1, h2, rfl⟩ Ev.refl o (.int _)⟩
theorem EI.draw {m : Int} (ha : A1 p K tas τ [.pu, .dat (.int m)]) (h0 : 0 < m) (h1 : m < 2 ^ 200) : EI p K (tCall spDraw [] E' tas) τ (fun d => 0 <= d /\ d < m) := fun W L σ H Q rs o q => ha W L σ H _ rs o fun vs H1 ss e e1 o1 rv => by
  subst e
  cases rv with
  | cons a t =>
    cases t with
    | cons b t =>
      cases t
      obtain ⟨q0, rfl, rfl⟩ := a
      cases b.int_inv
      have pu := (o1.pu q0 rfl).1
      refine ⟨q0, m, rfl, pu, h0, h1, fun d H' d0 d1 sb pu' => ?_⟩
      have ev := sb_ev sb pu
      exact q _ H' _ ⟨d, rfl, d0, d1⟩ (e1.trans ev) (o1.ev ev fun q hq => by cases hq; exact pu') (.int _)
noncomputable def ER (p : Option Addr) (K : PySem.W.Frag) (te : TE) (τ : List Sl) (P : List Int -> Prop) : Prop := E p K te τ (fun s => ∃ ns, s = .dat (tI ns) /\ P ns)
end
theorem bt2 : Bt 2 1 := by unfold Bt; decide
theorem bd_bt4 {k : Nat} {a b c d : Int} (h : Bd (2 ^ k) [a, b, c, d]) : Bt a k /\ Bt b k /\ Bt c k /\ Bt d k := ⟨h a (by simp), h b (by simp), h c (by simp), h d (by simp)⟩
section
variable {p : Option Addr} {K : PySem.W.Frag} {τ : List Sl} {te : TE} {ds : List Dat}
theorem lsz {α : Type} {l : List α} {n : Nat} (h : l.length = n) (hn : n <= sizeLine) : l.length <= sizeLine := h ▸ hn
theorem z1 : 1 <= sizeLine := by decide
theorem z2 : 2 <= sizeLine := by decide
theorem z3 : 3 <= sizeLine := by decide
theorem z4 : 4 <= sizeLine := by decide
theorem z0 : 0 <= sizeLine := by decide
end
end D
end
namespace D
open PySem L2 K0 Num
open PySem.W (Dat)
section
theorem sm_bd' {k : Nat} {ns : List Int} (h : Bd (2 ^ k) ns) (hk : k < 9000 := by decide) : Sm ns := sm_bd h (Nat.pow_lt_pow_right (by decide) hk)
theorem nz_of_ne3 {ns : List Int} (l : ns.length = 3) (h : ns ≠ [0, 0, 0]) : ∃ n ∈ ns, n ≠ 0 := by
  obtain ⟨a, b, c, rfl⟩ := three_of l
  by_cases ha : a = 0
  . by_cases hb : b = 0
    . by_cases hc : c = 0
      . subst ha hb hc; exact absurd rfl h
      . exact ⟨c, by simp, hc⟩
    . exact ⟨b, by simp, hb⟩
  . exact ⟨a, by simp, ha⟩
theorem nz_of_ne4 {ns : List Int} (l : ns.length = 4) (h : ns ≠ [0, 0, 0, 0]) : ∃ n ∈ ns, n ≠ 0 := by
  obtain ⟨a, b, c, d, rfl⟩ := four_of l
  by_cases ha : a = 0
  . by_cases hb : b = 0
    . by_cases hc : c = 0
      . by_cases hd : d = 0
        . subst ha hb hc hd; exact absurd rfl h
        . exact ⟨d, by simp, hd⟩
      . exact ⟨c, by simp, hc⟩
    . exact ⟨b, by simp, hb⟩
  . exact ⟨a, by simp, ha⟩
theorem cpow10 {k : Int} (h0 : 0 <= k) (h1 : k <= 1000000) : CPow 10 k := ⟨h0, h1, by decide⟩
section
variable {p : Option Addr} {K : PySem.W.Frag} {τ : List Sl} {ta tb : TE}
end
theorem T1.eqn {p : Option Addr} {K : PySem.W.Frag} {τ : List Sl} {tt : TT} {b c : Bool} (h : T1 p K tt τ b) (e : b = c) : T1 p K tt τ c := e ▸ h
section
variable {p : Option Addr} {K : PySem.W.Frag} {τ : List Sl} {tt : TT}
theorem T1.notT (h : T1 p K tt τ true) : T1 p K (tNot tt) τ false := T1.not h
theorem T1.neDT {p : Option Addr} {K : PySem.W.Frag} {τ : List Sl} {ta tb : TE} {a b : Sl} {d : Dat} (ha : E1 p K ta τ a) (hb : E1 p K tb τ b) (ea : datOf a = some d) (eb : datOf b = some d) (k1 : PySem.W.kqdOk 9 d = true) : T1 p K (tTest (tOp (rEqD K true) ta tb)) τ false := (T1.test (E1.neD ha hb ea eb k1 k1)).eqn (by rw [deq_self]; rfl)
end
theorem tI_inj {ns ms : List Int} (h : tI ns = tI ms) : ns = ms := map_int_inj (by injection h)
end
section
section
variable {p : Option Addr} {K : PySem.W.Frag} {W : Addr -> Prop} {L : List Addr} {σ : St} {H H0 H1 H2 : Hp} {τ τ' : List Sl} {ta tb te : TE} {tas : TA} {v : V} {s : Sl} {nx : List Sl -> Prop} {rt : Sl -> Prop} {t u : TS} {ds : List Dat} {E' : XK} {wi : TI}
theorem T.cmpI {g : Int -> Int -> Bool} {P Q : Int -> Prop} (ha : EI p K ta τ P) (hb : EI p K tb τ Q) : T p K (tTest (tOp (rI0 fun i j => .bl (g i j)) ta tb)) τ (fun b => ∃ i j, P i /\ Q j /\ b = g i j) := fun W L σ H R rs o q =>
  ha W L σ H _ rs o fun x H1 s ⟨i, e, h1⟩ e1 o1 rv1 => hb W L σ H1 _ (rs.ev e1 o.pw) o1 fun y H2 t ⟨j, e', h2⟩ e2 o2 rv2 => by
    subst e e'
    cases rv1.int_inv; cases rv2.int_inv
    exact ⟨i, j, rfl, rfl, _, rfl, q _ H2 ⟨i, j, h1, h2, rfl⟩ (e1.trans e2) o2⟩
theorem T.eqI {P Q : Int -> Prop} (ha : EI p K ta τ P) (hb : EI p K tb τ Q) : T p K (tTest (tOp rEq ta tb)) τ (fun b => ∃ i j, P i /\ Q j /\ b = decide (i = j)) := fun W L σ H R rs o q =>
  ha W L σ H _ rs o fun x H1 s ⟨i, e, h1⟩ e1 o1 rv1 => hb W L σ H1 _ (rs.ev e1 o.pw) o1 fun y H2 t ⟨j, e', h2⟩ e2 o2 rv2 => by
    subst e e'
    cases rv1.int_inv; cases rv2.int_inv
    refine ⟨rfl, _, rfl, q _ H2 ⟨i, j, h1, h2, ?_⟩ (e1.trans e2) o2⟩
    rw [decide_eq_decide]; exact ⟨fun h => by injection h, fun h => by rw [h]⟩
theorem EI.lit {i : Int} : EI p K (tC (.int i)) τ (fun k => k = i) := EI.of E1.int rfl
theorem EI.pick {ms : List Int} {P : Int -> Prop} (hl : E1 p K ta τ (.vw (ms.map .int))) (hd : EI p K tb τ P) (hp : ∀ d, P d -> 0 <= d /\ d < (ms.length : Int)) : EI p K (tOp (rIxL K) ta tb) τ (fun m => m ∈ ms) :=
  E.op2 (B := fun _ => True) (A := fun x => (Sl.vw (ms.map .int)) = x) hl (fun _ _ => hd) fun s t e ⟨d, e2, h2⟩ W H0 H x y R o0 o r1 r2 q => by
    subst e e2
    cases r2.int_inv
    obtain ⟨a, vs, rfl, h1, hz⟩ := r1
    have e := hz.inv
    subst e
    obtain ⟨d0, d1⟩ := hp d h2
    obtain ⟨m, hm, e⟩ := at_draw d0 d1
    exact ⟨a, _, d, _, rfl, rfl, h1.sq, e, q _ H _ ⟨m, rfl, hm⟩ Ev.refl o (.int _)⟩
theorem E.pick {ms : List Dat} {P : Int -> Prop} (hl : E1 p K ta τ (.vw ms)) (hd : EI p K tb τ P) (hp : ∀ d, P d -> 0 <= d /\ d < (ms.length : Int)) : E p K (tOp (rIxL K) ta tb) τ (fun s => ∃ d, s = .dat d /\ d ∈ ms) :=
  E.op2 (B := fun _ => True) (A := fun x => (Sl.vw ms) = x) hl (fun _ _ => hd) fun s t e ⟨d, e2, h2⟩ W H0 H x y R o0 o r1 r2 q => by
    subst e e2
    cases r2.int_inv
    obtain ⟨a, vs, rfl, h1, hz⟩ := r1
    obtain ⟨d0, d1⟩ := hp d h2
    obtain ⟨j, rfl⟩ := Int.eq_ofNat_of_zero_le d0
    have hj : j < ms.length := by omega
    obtain ⟨x, e1, e2⟩ := hz.get (i := j) (e := ms[j]) (by simp [hj])
    exact ⟨a, _, j, _, rfl, rfl, h1.sq, atI_nat e1, q _ H _ ⟨ms[j], rfl, List.getElem_mem hj⟩ Ev.refl o e2⟩
theorem ints_of {P : Int -> Prop} : ∀ {es : List Dat}, (∀ (i : Nat) (e : Dat), es[i]? = some e -> ∃ n, e = .int n /\ P n) -> ∃ ns : List Int, es = ns.map .int /\ ∀ n ∈ ns, P n
  | [], _ => ⟨[], rfl, fun n hn => by cases hn⟩
  | e :: r, h => by
    obtain ⟨n, rfl, hn⟩ := h 0 e rfl
    obtain ⟨ns, rfl, hs⟩ := ints_of (es := r) fun i e he => h (i + 1) e (by simpa using he)
    exact ⟨n :: ns, rfl, fun m hm => (List.mem_cons.mp hm).elim (fun z => by rw [z]; exact hn) (hs m)⟩
noncomputable def EL (p : Option Addr) (K : PySem.W.Frag) (te : TE) (τ : List Sl) (n : Nat) (P : Int -> Prop) : Prop := E p K te τ (fun s => ∃ ns : List Int, s = .own (ns.map .int) /\ ns.length = n /\ ∀ m ∈ ns, P m)
theorem EL.comp {P : Int -> Prop} {n : Nat} (hw : Wk p K wi τ ds) (hn : ds.length = n) (turn : ∀ d, d ∈ ds -> EI p K te (.dat d :: τ) P) (hz : n <= sizeLine) : EL p K (tCompB 1 wi (gName 0) tAll te) τ n P := by
  refine E.mono (E.compC (Cd := fun _ e => ∃ i, e = .int i /\ P i) hw (fun d hd => E.mono (turn d hd) fun s ⟨i, e, hp⟩ => ⟨_, e, i, rfl, hp⟩) (by omega)) fun s ⟨es, e, l, h⟩ => ?_
  obtain ⟨ns, rfl, hs⟩ := ints_of (P := P) (es := es) fun i e he => let ⟨d, _, h⟩ := h i e he; h
  exact ⟨ns, e, by rw [List.length_map] at l; omega, hs⟩
theorem EL.row {n : Nat} {P : Int -> Prop} (h : EL p K te τ n P) : ER p K (tCB (fun xs H Q => ∃ p ys, xs = [.ref p] /\ ((SqL K H p ys /\ ∀ l, H l = none -> Q (.ref l) (upd H l (.tup ys))) \/ (SqT K H p ys /\ Q (.ref p) H))) (tCons te tNil)) τ (fun ns => ns.length = n /\ ∀ m ∈ ns, P m) := fun W L σ H Q rs o q =>
  h W L σ H _ rs o fun v H1 s ⟨ns, e, l, hp⟩ e1 o1 rv => by
    subst e
    obtain ⟨a, vs, rfl, h0, h1, h2⟩ := rv
    have e := h2.inv
    subst e
    refine ⟨a, _, rfl, .inl ⟨SqL.of h1, fun r hr => ?_⟩⟩
    have s := Same.new hr (.tup (ns.map V.int))
    exact q _ _ _ ⟨ns, rfl, l, hp⟩ (e1.trans (Ev.of s)) (o1.same s) (told upd_same)
noncomputable def forget : Sl -> Sl
  | .pu => .un
  | s => s
theorem Rs.forget {q : Addr} (r : Rs (some q) W K H L σ τ) : Rs none W K H L σ (τ.map forget) := by
  induction r with
  | nil => exact .nil
  | un _ ih => exact .un ih
  | dat h _ ih => exact .dat h ih
  | pu h _ ih => exact .un ih
  | own h1 h2 h3 h4 h5 _ ih => exact .own h1 (fun z => by cases z) h3 h4 h5 ih
  | dt h1 h2 h3 h4 _ ih => exact .dt h1 (fun b hb z => by cases z) h3 h4 ih
theorem Rs.learn {q : Addr} {i : Nat} (r : Rs none W K H L σ τ) (nq : H q = none) (hw : ∀ a, W a -> ∃ ys, H a = some ys) : Rs (some q) (fun a => W a \/ a = q) K H L σ τ := by
  have n : ∀ a, (W a \/ a = q) -> ¬ W a -> H a = Option.none := fun a h z => (h.resolve_left z) ▸ nq
  induction r with
  | nil => exact .nil
  | un _ ih => exact .un ih
  | dat h _ ih =>
    refine .dat ?_ ih
    cases Dzs.wide (W' := fun a => W a \/ a = q) (.cons h .nil) n with
    | cons a _ => exact a
  | pu h _ ih => cases h
  | own h1 h2 h3 h4 h5 _ ih => exact .own (.inl h1) (fun z => by cases z; rw [nq] at h4; cases h4) h3 h4 (Dzs.wide h5 n) ih
  | dt h1 h2 h3 h4 _ ih => exact .dt (fun b hb => .inl (h1 b hb)) (fun b hb z => by cases z; obtain ⟨o, ho⟩ := Own.al _ h4 _ hb; rw [nq] at ho; cases ho) h3 (Own.wide _ h4 fun a o na ha wa => by rw [n a wa na] at ha; cases ha) ih
theorem S.withPurse {sp : Sp} {ss : List Sl} {i : Nat} (ha : A1 none K tas τ ss) (hs : ∀ (W : Addr -> Prop) (H0 H : Hp) (vs : List V) (Q : VK), Rvs none W K H0 H vs ss -> (∀ (q : Addr) (H' : Hp), H q = none -> Same H H' -> Pu H' q -> Q (.ref q) H') -> sp (vs ++ []) H Q E')
    (m : ∀ q, S (some q) K u (τ.set i .pu) (fun τ' => nx (τ'.map forget)) rt) (hrt : ∀ s, rt s -> ∃ d, s = .dat d) : S none K (tSeq (tAsg (tCall sp [] E' tas) (gName i)) u) τ nx rt := fun W L σ H D r o q1 q2 =>
  ha W L σ H _ r o fun vs H1 ss e e1 o1 rv => by
    subst e
    refine hs W H H1 vs _ rv fun q H2 hq s2 pu => ?_
    have r1 := r.ev e1 o.pw
    have e2 : Ev (Pp (some q)) H1 H2 := Ev.of s2
    have hq0 : H q = none := o1.back e1 hq
    have r2 : Rs (some q) (fun a => W a \/ a = q) K H2 L σ τ := (Rs.learn (i := 0) r1 hq o1.al).ev e2 fun a ha => by cases ha; exact .inr rfl
    obtain ⟨L', l, r3⟩ := r2.set (v := .ref q) (s := .pu) (.inr (.inr ⟨rfl, q, rfl, rfl⟩)) i
    have o2 : Ok (some q) (fun a => W a \/ a = q) H2 := ⟨fun a ha => by cases ha; exact ⟨pu, .inr rfl⟩, fun a ha => by
      rcases ha with ha | rfl
      . obtain ⟨ys, h⟩ := o1.al a ha; exact ⟨ys, s2 _ _ h⟩
      . obtain ⟨x, y, h⟩ := pu; exact ⟨_, h⟩⟩
    have e02 : Ev W H H2 := (e1.ofP o).trans (Ev.of s2)
    have n1 : ∀ a, (W a \/ a = q) -> W a \/ H a = none := fun a ha => ha.imp id fun z => by rw [z]; exact hq0
    have al2 : ∀ a, W a -> ∃ ys, H2 a = some ys := fun a ha => let ⟨ys, h⟩ := o1.al a ha; ⟨ys, s2 _ _ h⟩
    have hn : ∀ a, H2 a = none -> H a = none := fun a ha => e02.none al2 ha
    refine m q _ L' _ H2 _ r3 o2 (fun W4 L4 σ4 H4 τ4 c e4 o4 w4 n4 l4 r4 => ?_) (fun W4 H4 v s c e4 o4 w4 n4 rv => ?_)
    . exact q1 W4 L4 σ4 H4 _ c (e02.chain e4 n1) ⟨fun q h => (by cases h), o4.al⟩ (fun a ha => w4 a (.inl ha)) (fun a ha => (n4 a ha).elim (n1 a) fun z => .inr (hn a z)) (fun a ha => (l4 a ha).elim (fun z => .inl (l a z)) fun z => .inr (hn a z)) r4.forget
    . obtain ⟨d, rfl⟩ := hrt s c
      exact q2 W4 H4 v _ c (e02.chain e4 n1) ⟨fun q h => (by cases h), o4.al⟩ (fun a ha => w4 a (.inl ha)) (fun a ha => (n4 a ha).elim (n1 a) fun z => .inr (hn a z)) rv
theorem S.purse1 {i : Nat} {ns : List Int} (ha : A1 none K tas τ [.dat (.list (ns.map .int))]) (hl : ns.length <= 63) (hb : ∀ v ∈ ns, Builtin.Int.intBits v <= 2 ^ 20) (m : ∀ q, S (some q) K u (τ.set i .pu) (fun τ' => nx (τ'.map forget)) rt) (hrt : ∀ s, rt s -> ∃ d, s = .dat d) : S none K (tSeq (tAsg (tCall (spPurse K) [] E' tas) (gName i)) u) τ nx rt :=
  S.withPurse ha (fun W H0 H vs Q rv q => by
    cases rv with
    | cons a t =>
      cases t
      cases a with
      | lst h1 h2 =>
        have e := h2.inv
        subst e
        exact ⟨_, ns, rfl, h1.sq, hl, hb, q⟩) m hrt
variable {P : Program} {w : World} {mg : Str -> Option Value} {base : Heap}
theorem okL {x qual : Str} {st : Stmt} {f : Addr} {fd : FuncData} {N ps : List Str} {k : Nat} (F : Fun K x qual st f fd) (S0 : FnScope N ps (defScope st)) (len : ps.length = 1)
    (body : ∀ (cdv : Value) (A : Around) (outer : List Env) (s : Shared) (H : Hp) (E : XK), Room k (A.deeper (PyProof.Rows.envOfC qual (defScope st) s.heap.objs.size f cdv)) ->
      ∃ t, ZSs (cxOf CX0 P w K mg base N qual (defScope st) f cdv A outer s H E).nox (defBody st) t /\ ∀ ns : List Int, ns.length <= 63 -> (∀ v ∈ ns, Builtin.Int.intBits v <= 2 ^ 20) -> S none K t (.dat (.list (ns.map .int)) :: List.replicate (N.length - 1) .un) (fun _ => False) (fun s => s = .dat (.bool true))) : FnOk P w K mg base CX0 (k + 1) f fd ps (spLaw K) := by
  refine F.okZ S0 (fun vs H Q E h => ?_) (fun cdv A outer s H vs Q E hr h => ?_)
  . obtain ⟨a, ns, rfl, _⟩ := h; rw [len]; rfl
  . obtain ⟨a, ns, rfl, hS, hl, hb, q⟩ := h
    obtain ⟨t, hz, hs⟩ := body cdv A outer s H E hr
    refine ⟨t, hz, ?_⟩
    have z : Dzs (fun _ => True) K H [.ref a] [.list (ns.map .int)] := .cons (.lst (by
      rcases hS with h | h
      . exact .inl ⟨trivial, h⟩
      . exact .inr (.inr h)) (Dzs.ints _)) .nil
    have r0 : Rs none (fun _ => False) K H [] (L2.start N [.ref a]) (.dat (.list (ns.map .int)) :: List.replicate (N.length - 1) .un) := by
      unfold L2.start
      exact rs_start _ z fun a _ h => h
    refine hs ns hl hb (fun _ => False) [] _ H _ r0 ⟨fun q h => (by cases h), fun a h => False.elim h⟩ (fun W' L' σ' H' τ' e ev o' al n l r' => e.elim) (fun W' H' v s e ev o' al n rv => ?_)
    subst e
    cases (Rv.bl_inv (p := none) (H0 := H) rv)
    exact q H'
end
end
end D
section
namespace D
open PySem L2 K0
open PySem.W (Dat)
section
variable {p : Option Addr} {K : PySem.W.Frag} {W : Addr -> Prop} {L : List Addr} {σ : St} {H H1 H2 : Hp} {τ : List Sl} {te : TE} {tas : TA} {v : V} {s : Sl} {u : TS} {ds : List Dat} {wi : TI}
theorem E.compX {no : Nat} {g : TG} (hw : Wk p K wi τ ds) (own : Dat -> List Sl) (hg : ∀ d, d ∈ ds -> Gc p K no g d (own d)) (Cd : Nat -> Dat -> Prop)
    (turn : ∀ (i : Nat) d, ds[i]? = some d -> E p K te (own d ++ τ) (fun s => ∃ e, s = .dat e /\ Cd i e)) (hz : ds.length <= sizeLine) :
    E p K (tCompB no wi g tAll te) τ (fun s => ∃ es, s = .own es /\ es.length = ds.length /\ ∀ (i : Nat) (e : Dat), es[i]? = some e -> Cd i e) := fun W L σ H Q r o q => by
  refine hw W L σ H _ r o fun J H1 e1 o1 jd => ?_
  intro D hD
  have nD := o1.fresh hD
  have pD := o1.np hD
  have r1 := r.ev e1 o.pw
  have r1' : Rs p (fun b => W b \/ b = D) K H1 L σ τ := r1.wide (fun _ h => .inl h) fun b hb nb => (hb.resolve_left nb) ▸ hD
  refine ⟨fun i m σ' H' => m = ds.length - i /\ i <= ds.length /\ (∃ ρ, ρ.length = no /\ σ' = ρ ++ σ) /\ Ev (fun a => Pp p a \/ a = D) H1 H' /\ (∀ q, p = some q -> Pu H' q) /\ ∃ (vs : List V) (es : List Dat), H' D = some (.lst vs) /\ Dzs (fun b => ¬ (W b \/ b = D)) K H' vs es /\ es.length = i /\ ∀ (j : Nat) (e : Dat), es[j]? = some e -> Cd j e,
    ⟨ds.length, by omega, Nat.zero_le _, ⟨List.replicate no none, by simp, rfl⟩, ⟨fun b u nb h => by rw [upd_ne (fun z => nb (.inr z))]; exact h, (Same.new hD _).tm⟩, fun q hq => (o1.pu q hq).1.same (Same.new hD _), [], [], upd_same, .nil, rfl, fun j e h => by simp at h⟩, ?_⟩
  rintro i m σ' H' ⟨rfl, hi, ⟨ρ, lρ, rfl⟩, ev, pu, vs, es, hv, zv, le, hes⟩
  have evW : Ev W H1 H' := ⟨fun b u nb h => ev.keep b u (fun z => z.elim (fun y => nb (o1.pw b y)) fun y => by rw [y] at h; rw [hD] at h; cases h) h, ev.tm⟩
  have ok' : Ok p (fun b => W b \/ b = D) H' := ⟨fun q hq => ⟨pu q hq, .inl (o1.pw q hq)⟩, fun b hb => by
    by_cases z : b = D
    . subst z; exact ⟨_, hv⟩
    . by_cases y : p = some b
      . obtain ⟨x1, x2, h⟩ := pu b y; exact ⟨_, h⟩
      . obtain ⟨ys, h⟩ := o1.al b (hb.resolve_right z)
        exact ⟨ys, ev.keep _ _ (fun w => w.elim y z) h⟩⟩
  have evD : Ev (fun b => W b \/ b = D) H1 H' := evW.mono fun _ h => .inl h
  have rs' : Rs p (fun b => W b \/ b = D) K H' L σ τ := by
    refine Rs.evx r1' ev (fun a ha z => ?_) fun a u ha np z => ?_
    . rcases z with z | z
      . exact ha (.inl (o1.pw a z))
      . exact ha (.inr z)
    . rcases z with z | z
      . exact np z
      . rw [z, hD] at ha; cases ha
  obtain ⟨stop, each⟩ := jd (fun b => W b \/ b = D) H' evW fun a ha => ha.imp id fun z => by rw [z]; exact hD
  have o1f : H D = none := o1.back e1 hD
  by_cases hlt : i < ds.length
  . have hd : ds[i]? = some ds[i] := by simp [hlt]
    have hm : ds[i] ∈ ds := List.getElem_mem hlt
    obtain ⟨go, yl⟩ := each i _ hd
    refine .inr ⟨go, fun x H2 y => ?_⟩
    obtain ⟨s2, z2⟩ := yl x H2 y
    have ok2 := ok'.same s2
    refine hg _ hm _ L ρ σ τ H2 x _ lρ (rs'.ev (Ev.of s2) ok'.pw) z2 fun ρ' lρ' rs2 => ?_
    have hv4 : H2 D = some (.lst vs) := s2 _ _ hv
    have zv4 : Dzs (fun b => ¬ (W b \/ b = D)) K H2 vs es := zv.ev (W := fun _ => False) (Ev.of s2) fun _ _ h => h
    show tAll _ _ _
    unfold tAll
    dsimp only
    rw [if_pos rfl]
    refine turn i _ hd _ L _ H2 _ rs2 ok2 fun v H5 s c e5 o5 rv => ?_
    obtain ⟨e, rfl, ce⟩ := c
    have hv5 : H5 D = some (.lst vs) := e5.keep _ _ pD hv4
    have zv5 := zv4.ev e5 fun a ha z => ha (.inl (o1.pw a z))
    have ll : vs.length <= i := by rw [zv.len, le]; exact Nat.le_refl _
    have evu : Ev (fun b => b = D) H5 (upd H5 D (.lst (vs ++ [v]))) := ⟨fun b o n h => by rw [upd_ne n]; exact h, Tm.lst hv5 _⟩
    have pvH : Ev (fun a => Pp p a \/ a = D) H' H2 := Ev.of s2
    refine ⟨vs, hv5, by omega, ds.length - (i + 1), by omega, rfl, hlt, ⟨ρ', lρ', rfl⟩, (ev.trans (pvH.trans (e5.mono fun _ h => .inl h))).trans (evu.mono fun _ h => .inr h), fun q hq => ?_, vs ++ [v], es ++ [e], upd_same, (zv5.app (.cons rv .nil)).ev evu fun b hb z => hb (.inr z), ?_, fun j f hj => ?_⟩
    . obtain ⟨x1, x2, h⟩ := (o5.pu q hq).1
      exact ⟨x1, x2, by rw [upd_ne (fun z => pD (by rw [<- z]; exact hq))]; exact h⟩
    . rw [List.length_append, le]; rfl
    . by_cases hj2 : j < es.length
      . rw [List.getElem?_append_left hj2] at hj
        exact hes j f hj
      . rw [List.getElem?_append_right (by omega)] at hj
        have ej : j - es.length = 0 := by
          have := (List.getElem?_eq_some_iff.mp hj).1
          simp at this; omega
        rw [ej] at hj
        cases hj
        have : j = i := by omega
        rw [this]; exact ce
  . have e : i = ds.length := by omega
    subst e
    have evP : Ev (Pp p) H1 H' := ⟨fun b u nb h => ev.keep b u (fun z => z.elim nb fun y => by rw [y] at h; rw [hD] at h; cases h) h, ev.tm⟩
    refine .inl ⟨stop, q _ H' _ ⟨es, rfl, le, hes⟩ (e1.trans evP) (o1.ev evP pu) ⟨D, vs, rfl, o1f, hv, zv.mono fun a ha z => ha (.inl z)⟩⟩
theorem ext_of {es fs : List Dat} (l : es.length = fs.length) (h : ∀ (i : Nat) (e : Dat), es[i]? = some e -> fs[i]? = some e) : es = fs := by
  apply List.ext_getElem?
  intro i
  cases q : es[i]? with
  | none =>
    have := List.getElem?_eq_none_iff.mp q
    rw [List.getElem?_eq_none (by omega)]
  | some e => rw [h i e q]
theorem E1.compX {no : Nat} {g : TG} (fs : List Dat) (hw : Wk p K wi τ ds) (own : Dat -> List Sl) (hg : ∀ d, d ∈ ds -> Gc p K no g d (own d)) (hl : fs.length = ds.length) (turn : ∀ (i : Nat) d f, ds[i]? = some d -> fs[i]? = some f -> E1 p K te (own d ++ τ) (.dat f)) (hz : ds.length <= sizeLine) : E1 p K (tCompB no wi g tAll te) τ (.own fs) := by
  refine E.mono (E.compX hw own hg (fun i e => fs[i]? = some e) (fun i d hd => ?_) hz) fun s ⟨es, e, l, h⟩ => ?_
  . have hi : i < fs.length := by rw [hl]; exact (List.getElem?_eq_some_iff.mp hd).1
    have hf : fs[i]? = some fs[i] := by simp [hi]
    exact E.mono (turn i d _ hd hf) fun s hs => ⟨_, hs.symm, hf⟩
  . rw [e, ext_of (by rw [l, hl]) h]
theorem get4' {α : Type} {x1 x2 x3 x4 x : α} {i : Nat} (h : [x1, x2, x3, x4][i]? = some x) : (i = 0 /\ x1 = x) \/ (i = 1 /\ x2 = x) \/ (i = 2 /\ x3 = x) \/ (i = 3 /\ x4 = x) := by
  match i, h with
  | 0, h => exact .inl ⟨rfl, by simpa using h⟩
  | 1, h => exact .inr (.inl ⟨rfl, by simpa using h⟩)
  | 2, h => exact .inr (.inr (.inl ⟨rfl, by simpa using h⟩))
  | 3, h => exact .inr (.inr (.inr ⟨rfl, by simpa using h⟩))
theorem E1.comp4 {d1 d2 d3 d4 e1 e2 e3 e4 : Dat} (hw : Wk p K wi τ [d1, d2, d3, d4]) (h1 : E1 p K te (.dat d1 :: τ) (.dat e1)) (h2 : E1 p K te (.dat d2 :: τ) (.dat e2)) (h3 : E1 p K te (.dat d3 :: τ) (.dat e3)) (h4 : E1 p K te (.dat d4 :: τ) (.dat e4)) : E1 p K (tCompB 1 wi (gName 0) tAll te) τ (.own [e1, e2, e3, e4]) :=
  E1.compX [e1, e2, e3, e4] hw (fun d => [.dat d]) (fun d _ => Gc.name) rfl (fun i d f hd hf => by
    rcases get4' hd with ⟨rfl, rfl⟩ | ⟨rfl, rfl⟩ | ⟨rfl, rfl⟩ | ⟨rfl, rfl⟩
    . cases hf; exact h1
    . cases hf; exact h2
    . cases hf; exact h3
    . cases hf; exact h4) (by show 4 <= sizeLine; decide)
noncomputable def iOf : List Dat -> Option (List Int)
  | [] => some []
  | .int i :: r => match iOf r with
    | some ns => some (i :: ns)
    | none => none
  | _ => none
theorem iOf_eq : ∀ {ds : List Dat} {ns : List Int}, iOf ds = some ns -> ds = ns.map .int
  | [], ns, h => by cases h; rfl
  | .int i :: r, ns, h => by
    unfold iOf at h
    cases e : iOf r with
    | none => rw [e] at h; cases h
    | some es => rw [e] at h; cases h; rw [iOf_eq e]; rfl
theorem E1.su {ds : List Dat} {ns : List Int} (ha : A1 p K tas τ [.vw ds]) (e : iOf ds = some ns) : E1 p K (tCB (fun xs H Q => ∃ (a : Addr) (ns : List Int), xs = [.ref a] /\ SqL K H a (ns.map V.int) /\ Q (.int ns.sum) H) tas) τ (.dat (.int ns.sum)) := E1.sum (iOf_eq e ▸ ha)
end
end D
end
namespace D
open PySem L2 K0 Num
open PySem.W (Dat)
section
noncomputable def qf (x : Rat) : List Int := [x.num, (x.den : Int)]
theorem qf_val (x : Rat) : qv x.num x.den = x := by
  unfold qv
  rw [<- Rat.divInt_eq_div, Rat.num_divInt_den]
theorem bt_some (n : Int) : ∃ k, Bt n k := ⟨n.natAbs, by unfold Bt; exact Nat.le_of_lt Nat.lt_two_pow_self⟩
theorem lo_qf (x : Rat) {k : Nat} (h1 : Bt x.num k) (h2 : Bt (x.den : Int) k) : Lo k x.num x.den x := ⟨by have := x.den_pos; omega, by rw [Int.natAbs_natCast]; exact x.reduced, h1, h2, qf_val x⟩
theorem lo_qf' (x : Rat) : ∃ k, Lo k x.num x.den x := by
  obtain ⟨k1, h1⟩ := bt_some x.num
  obtain ⟨k2, h2⟩ := bt_some (x.den : Int)
  exact ⟨max k1 k2, lo_qf x (h1.up (Nat.le_max_left _ _)) (h2.up (Nat.le_max_right _ _))⟩
theorem fr_qf {t b : Int} (hb : 0 < b) : fr t b = qf (qv t b) := by
  obtain ⟨t', b', e⟩ := fr_two t b
  obtain ⟨k1, h1⟩ := bt_some t
  obtain ⟨k2, h2⟩ := bt_some b
  have l := Lo.of hb (h1.up (Nat.le_max_left k1 k2)) (h2.up (Nat.le_max_right k1 k2)) e rfl
  obtain ⟨k, l2⟩ := lo_qf' (qv t b)
  rw [e]
  exact l.eq l2
noncomputable def ptQ (x y z : Rat) : Dat := ptD (qf x) (qf y) (qf z)
section
variable {W : Addr -> Prop}
end
end
section
section
variable {p : Option Addr} {K : PySem.W.Frag} {τ : List Sl} {ta tb : TE}
theorem E1.eqB {a b : Bool} (ha : E1 p K ta τ (.dat (.bool a))) (hb : E1 p K tb τ (.dat (.bool b))) : E1 p K (tOp rEq ta tb) τ (.dat (.bool (decide (a = b)))) := E1.op2 ha hb fun W H0 H u v Q o0 o r1 r2 q => by
  cases r1.bl_inv; cases r2.bl_inv
  refine ⟨rfl, q _ H Ev.refl o ?_⟩
  have e : decide (V.bl a = V.bl b) = decide (a = b) := by rw [decide_eq_decide]; exact ⟨fun h => by injection h, fun h => by rw [h]⟩
  rw [e]; exact .bool _
end
end
section
noncomputable abbrev Q1 (a b d e : Int) (x y z : Rat) : Rat := K0.R1 a b d e x y z / N4 a b d e
noncomputable abbrev Q2 (a b d e : Int) (x y z : Rat) : Rat := K0.R2 a b d e x y z / N4 a b d e
noncomputable abbrev Q3 (a b d e : Int) (x y z : Rat) : Rat := K0.R3 a b d e x y z / N4 a b d e
section
variable {W : Addr -> Prop}
end
end
noncomputable def MM (p q r x y z w v : Rat) : Rat := v - 2 * (p * x + q * y + r * z) / (p * p + q * q + r * r) * w
noncomputable abbrev M1 (p q r : Int) (x y z : Rat) : Rat := MM p q r x y z p x
noncomputable def ftR (k l N v D w c : Rat) : Rat := (k * (N * v - D * w) + l * c) / (2 * k * N)
noncomputable abbrev F1 (p q r k l : Int) (x y z : Rat) : Rat := ftR k l ((p : Rat) * p + q * q + r * r) x (p * x + q * y + r * z) p (q * z - r * y)
noncomputable abbrev F2 (p q r k l : Int) (x y z : Rat) : Rat := ftR k l ((p : Rat) * p + q * q + r * r) y (p * x + q * y + r * z) q (r * x - p * z)
noncomputable abbrev F3 (p q r k l : Int) (x y z : Rat) : Rat := ftR k l ((p : Rat) * p + q * q + r * r) z (p * x + q * y + r * z) r (p * y - q * x)
noncomputable abbrev sl (p q r : Int) (x y z : Rat) : Rat := ((p : Rat) * x + q * y + r * z) / ((p : Rat) * p + q * q + r * r)
section
section
variable {p : Option Addr} {K : PySem.W.Frag} {W : Addr -> Prop} {H : Hp} {τ : List Sl} {te : TE}
theorem E.tupC {C : List Dat -> Prop} (h : E p K te τ (fun s => ∃ es, s = .own es /\ C es)) : E p K (tCB (fun xs H Q => ∃ p ys, xs = [.ref p] /\ ((SqL K H p ys /\ ∀ l, H l = none -> Q (.ref l) (upd H l (.tup ys))) \/ (SqT K H p ys /\ Q (.ref p) H))) (tCons te tNil)) τ (fun s => ∃ es, s = .dat (.tuple es) /\ C es) := fun W L σ H Q rs o q =>
  h W L σ H _ rs o fun v H1 s ⟨es, e, c⟩ e1 o1 rv => by
    subst e
    obtain ⟨a, vs, rfl, h0, h1, h2⟩ := rv
    refine ⟨a, _, rfl, .inl ⟨SqL.of h1, fun r hr => ?_⟩⟩
    have s := Same.new hr (.tup vs)
    refine q _ _ _ ⟨es, rfl, c⟩ (e1.trans (Ev.of s)) (o1.same s) ?_
    exact .tup (SqT.of upd_same) (h2.ev (W := fun _ => False) (Ev.of s) fun _ _ z => z)
theorem Gd.four {τ' : List Sl} {i1 i2 i3 i4 : Nat} {d1 d2 d3 d4 : Dat} (e : (((τ.set i1 (.dat d1)).set i2 (.dat d2)).set i3 (.dat d3)).set i4 (.dat d4) = τ' := by rfl) : Gd p K (gTup K 4 (gCons (gName i1) (gCons (gName i2) (gCons (gName i3) (gCons (gName i4) gNil))))) (.tuple [d1, d2, d3, d4]) τ τ' := fun W L σ H v Q r zz q => by
  cases zz with
  | tup h1 h2 =>
    cases h2 with
    | cons z1 t =>
      cases t with
      | cons z2 t =>
        cases t with
        | cons z3 t =>
          cases t with
          | cons z4 t =>
            cases t
            obtain ⟨L1, l1, r1⟩ := r.set (s := .dat d1) (.inr (.inl ⟨d1, rfl, z1⟩)) i1
            obtain ⟨L2, l2, r2⟩ := r1.set (s := .dat d2) (.inr (.inl ⟨d2, rfl, z2⟩)) i2
            obtain ⟨L3, l3, r3⟩ := r2.set (s := .dat d3) (.inr (.inl ⟨d3, rfl, z3⟩)) i3
            obtain ⟨L4, l4, r4⟩ := r3.set (s := .dat d4) (.inr (.inl ⟨d4, rfl, z4⟩)) i4
            rw [e] at r4
            exact ⟨_, _, rfl, h1, rfl, _, _, rfl, _, _, rfl, _, _, rfl, _, _, rfl, rfl, q L4 _ (fun a h => l1 a (l2 a (l3 a (l4 a h)))) r4⟩
end
noncomputable abbrev Lw (x : Rat) : Prop := Lo 310 x.num x.den x
structure Row3 where
  x : Rat
  y : Rat
  z : Rat
noncomputable def Row3.d (r : Row3) : Dat := ptQ r.x r.y r.z
noncomputable def Row3.lw (r : Row3) : Prop := Lw r.x /\ Lw r.y /\ Lw r.z
noncomputable def Row3.dot (r s : Row3) : Rat := r.x * s.x + r.y * s.y + r.z * s.z
end
end D
section
namespace L2
open PySem PySem.Spec PyProof.Rows
section
variable {a b c e o : Expr}
end
end L2
namespace D
open PySem L2 K0 Num
open PySem.W (Dat)
section
variable {p : Option Addr} {K : PySem.W.Frag} {W : Addr -> Prop} {H : Hp} {τ : List Sl}
end
end D
namespace D
open PySem L2 K0 Num
open PySem.W (Dat)
end D
namespace D
open PySem L2 K0 Num
open PySem.W (Dat)
section
variable {p : Option Addr} {K : PySem.W.Frag} {W : Addr -> Prop} {H : Hp} {L : List Addr} {σ : St} {τ : List Sl} {t : TS} {nx : List Sl -> Prop} {rt : Sl -> Prop}
theorem Rs.less {a : Addr} (r : Rs p W K H L σ τ) : a ∉ L -> Rs p (fun b => W b /\ b ≠ a) K H L σ τ := by
  induction r with
  | nil => exact fun _ => .nil
  | un _ ih => exact fun h => .un (ih h)
  | dat h _ ih => exact fun n => .dat (h.mono fun _ nb z => nb z.1) (ih n)
  | pu h _ ih => exact fun n => .pu h (ih n)
  | own h1 h2 h3 h4 h5 _ ih => exact fun n => .own ⟨h1, fun z => n (z ▸ List.mem_cons_self)⟩ h2 h3 h4 (h5.mono fun _ nb z => nb z.1) (ih fun z => n (List.mem_cons_of_mem _ z))
  | dt h1 h2 h3 h4 _ ih => exact fun n => .dt (fun b hb => ⟨h1 b hb, fun z => n (z ▸ List.mem_append_left _ hb)⟩) h2 h3 (Own.wide _ h4 fun _ _ nb _ z => nb z.1) (ih fun z => n (List.mem_append_right _ z))
theorem Rs.frz (r : Rs p W K H L σ τ) : ∀ {i : Nat} {ds : List Dat}, τ[i]? = some (.own ds) -> ∃ (a : Addr) (L' : List Addr), (∀ b, b ∈ L' -> b ∈ L) /\ a ∈ L /\ W a /\ p ≠ some a /\ (∃ vs, H a = some (.lst vs)) /\ Rs p (fun b => W b /\ b ≠ a) K H L' σ (τ.set i (.dat (.list ds))) := by
  induction r with
  | nil => exact fun h => by simp at h
  | un r ih =>
    intro i ds h
    cases i with
    | zero => cases h
    | succ i =>
      obtain ⟨a, L', h1, h2, h3, h4, h5, h6⟩ := ih (i := i) h
      exact ⟨a, L', h1, h2, h3, h4, h5, .un h6⟩
  | dat z r ih =>
    intro i ds h
    cases i with
    | zero => cases h
    | succ i =>
      obtain ⟨a, L', h1, h2, h3, h4, h5, h6⟩ := ih (i := i) h
      exact ⟨a, L', h1, h2, h3, h4, h5, .dat (z.mono fun _ nb z => nb z.1) h6⟩
  | pu z r ih =>
    intro i ds h
    cases i with
    | zero => cases h
    | succ i =>
      obtain ⟨a, L', h1, h2, h3, h4, h5, h6⟩ := ih (i := i) h
      exact ⟨a, L', h1, h2, h3, h4, h5, .pu z h6⟩
  | @own L σ τ a vs es h1 h2 h3 h4 h5 r ih =>
    intro i ds h
    cases i with
    | zero =>
      cases h
      exact ⟨a, L, fun b hb => List.mem_cons_of_mem _ hb, List.mem_cons_self, h1, h2, ⟨vs, h4⟩, .dat (.lst (.inl ⟨fun z => z.2 rfl, .inl h4⟩) (h5.mono fun _ nb z => nb z.1)) (r.less h3)⟩
    | succ i =>
      obtain ⟨c, L', g1, g2, g3, g4, g5, g6⟩ := ih (i := i) h
      refine ⟨c, a :: L', fun b hb => ?_, List.mem_cons_of_mem _ g2, g3, g4, g5, .own ⟨h1, fun z => h3 (z ▸ g2)⟩ h2 (fun z => h3 (g1 _ z)) h4 (h5.mono fun _ nb z => nb z.1) g6⟩
      rcases List.mem_cons.mp hb with rfl | hb
      . exact List.mem_cons_self
      . exact List.mem_cons_of_mem _ (g1 _ hb)
  | @dt L l σ τ a o h1 h2 h3 h4 r ih =>
    intro i ds h
    cases i with
    | zero => cases h
    | succ i =>
      obtain ⟨c, L', g1, g2, g3, g4, g5, g6⟩ := ih (i := i) h
      refine ⟨c, l ++ L', fun b hb => ?_, List.mem_append_right _ g2, g3, g4, g5, .dt (fun b hb => ⟨h1 b hb, fun z => h3 b hb (z ▸ g2)⟩) h2 (fun b hb z => h3 b hb (g1 _ z)) (Own.wide _ h4 fun _ _ nb _ z => nb z.1) g6⟩
      rcases List.mem_append.mp hb with hb | hb
      . exact List.mem_append_left _ hb
      . exact List.mem_append_right _ (g1 _ hb)
theorem S.frz {i : Nat} {ds : List Dat} {τ' : List Sl} (h : τ[i]? = some (.own ds)) (m : S p K t τ' nx rt) (e : τ.set i (.dat (.list ds)) = τ' := by rfl) : S p K t τ nx rt := fun W L σ H D r o q1 q2 => by
  subst e
  obtain ⟨a, L', h1, h2, h3, h4, ⟨vs, h5⟩, h6⟩ := r.frz h
  have keep : ∀ {H' : Hp}, Ev (fun b => W b /\ b ≠ a) H H' -> H' a = some (.lst vs) := fun ev => ev.keep _ _ (fun z => z.2 rfl) h5
  refine m _ L' σ H D h6 ⟨fun q hq => ⟨(o.pu q hq).1, (o.pu q hq).2, fun z => h4 (z ▸ hq)⟩, fun b hb => o.al b hb.1⟩ (fun W' L2 σ' H' τ' n ev ok al wn ln rs => ?_) fun W' H' v s n ev ok al wn rr => ?_
  . refine q1 W' L2 σ' H' τ' n (ev.mono fun _ z => z.1) ok (fun b hb => ?_) (fun b hb => (wn b hb).imp (fun z => z.1) id) (fun b hb => (ln b hb).imp (h1 b) id) rs
    by_cases z : b = a
    . exact ⟨_, z ▸ keep ev⟩
    . exact al b ⟨hb, z⟩
  . refine q2 W' H' v s n (ev.mono fun _ z => z.1) ok (fun b hb => ?_) (fun b hb => (wn b hb).imp (fun z => z.1) id) ?_
    . by_cases z : b = a
      . exact ⟨_, z ▸ keep ev⟩
      . exact al b ⟨hb, z⟩
    . cases s with
      | own ds' =>
        obtain ⟨a', vs', e1, e2, e3, e4⟩ := rr
        exact ⟨a', vs', e1, e2.imp (h1 _) id, e3, e4⟩
      | dt ds' =>
        obtain ⟨a', vs', e1, e2, e3⟩ := rr
        exact ⟨a', vs', e1, fun b hb => (e2 b hb).imp (h1 _) id, e3⟩
      | _ => exact rr
end
end D
end
section
namespace HT
open PySem PySem.Spec PyProof.Rows
open MeetsSeq MeetsSeq2 MeetsSeq3
theorem repeat_tuple : seqRepeat? (Value.type "tuple") = pure (some (Value.builtin "tuple.__mul__")) := PyProof.Rows.seqSlot_of F.slot_tuple_mul.lookup (by decide +kernel)
theorem noFill_tuple_mul : fillsNumberSlot (.type "tuple") "mul" = pure false := PyProof.Rows.fillsNumberSlot_seq (id := "tuple.__mul__") (r := some (.builtin "tuple.__rmul__")) F.slot_tuple_mul.lookup (by decide +kernel) F.slot_tuple_rmul.lookup (by decide +kernel)
theorem int_rmul_tuple (a : Int) (t : Tok) (l : Addr) (items : Array Value) (n : Nat) (dd : Option Addr) (sl : Array (Option Value)) :
    Meets (Builtin.«int.__rmul__» ⟨[.int a t, .ref l], []⟩) (fun _ R s => s.heap.get? l = some { cls := .type "tuple", dict := dd, data := .seq items n, slots := sl } /\ R (.ok (.ret Value.notImplemented)) s) :=
  .of_wp fun prog w A R s h => by obtain ⟨hp, g, d, tk, os⟩ := s; obtain ⟨hl, h⟩ := h; wp_walk; exact ⟨_, rfl, h⟩
theorem tuple_mulW (l : Addr) (items : Array Value) (n : Nat) (dd : Option Addr) (sl : Array (Option Value)) (x : Int) (u : Tok) (h2 : 2 <= x) (h3 : x < 2 ^ 63) (hne : ¬ items.isEmpty = true) (hsz : items.size * x.toNat <= sizeLine) :
    Meets (Builtin.«tuple.__mul__» ⟨[.ref l, .int x u], []⟩) (fun _ R s => s.heap.get? l = some { cls := .type "tuple", dict := dd, data := .seq items n, slots := sl } /\ R (.ok (.ret (Value.ref s.heap.objs.size))) { s with heap := s.heap.push { cls := Value.type "tuple", data := Data.seq (List.foldl (fun x1 x2 => x1 ++ x2) #[] (List.replicate x.toNat items)) }, toks := s.toks }) :=
  .of_wp fun prog w A R s h => by
    obtain ⟨hp, g, d, tk, os⟩ := s; obtain ⟨hl, h⟩ := h
    have e1 : (items.size : Int) * x = ((items.size * x.toNat : Nat) : Int) := by push_cast; rw [Int.toNat_of_nonneg (by omega)]
    have c0 : ¬ (decide (x < -2 ^ 63) || decide (x ≥ 2 ^ 63)) = true := by simp; omega
    have c1 : ¬ (items.isEmpty || x == 1) = true := by
      simp only [Bool.or_eq_true, beq_iff_eq, not_or]
      exact ⟨hne, by omega⟩
    have c2 : ¬ (decide (x <= 0) || items.isEmpty) = true := by
      simp only [Bool.or_eq_true, decide_eq_true_eq, not_or]
      exact ⟨by omega, hne⟩
    have c3 : ¬ (items.size : Int) * x > (2 ^ 63 - 1) / 8 := by
      rw [e1]
      have : (sizeLine : Nat) <= (2 ^ 63 - 1) / 8 := by decide
      omega
    have c4 : ¬ Builtin.Tuple.tupleTooMany ((items.size : Int) * x) = true := by
      unfold Builtin.Tuple.tupleTooMany
      rw [e1]
      simp only [decide_eq_true_eq]
      omega
    have fsz : (List.foldl (fun x1 x2 => x1 ++ x2) #[] (List.replicate x.toNat items)).size <= sizeLine := by
      have := L2.foldl_rep items.toList x.toNat []
      rw [List.nil_append] at this
      rw [show (#[] : Array Value) = ([] : List Value).toArray from rfl, show items = items.toList.toArray from by simp, this, List.size_toArray, L2.len_rep, Nat.mul_comm]
      simpa using hsz
    have f0 := decide_eq_false c0
    have f1 := decide_eq_false c1
    have f2 := decide_eq_false c2
    have f4 := decide_eq_false c4
    wp_walk
    refine wpAny_ite_false f0 ?_
    wp_walk
    refine wpAny_ite_false f1 ?_
    wp_walk
    refine wpAny_ite_false f2 ?_
    wp_walk
    refine wpAny_ite_false (decide_eq_false c3) ?_
    wp_walk
    refine wpAny_ite_false f4 ?_
    wp_walk
    exact ⟨_, rfl, h⟩
end HT
namespace L2
open PySem PySem.Spec PyProof.Rows
noncomputable def rRepT (K : PySem.W.Frag) : R2 := fun x y H Q => ∃ a k xs, x = .ref a /\ y = .int k /\ SqT K H a xs /\ xs ≠ [] /\ 2 <= k /\ k < 2 ^ 63 /\ xs.length * k.toNat <= sizeLine /\ ∀ p, H p = none -> Q (.ref p) (upd H p (.tup (List.replicate k.toNat xs).flatten))
theorem op_repT {X : Cx} : OpR X (binaryOp .Mult) (rRepT X.K) := by
  intro pins s σ H x y v u Q I rx ry h
  obtain ⟨a, k, xs, rfl, rfl, ha, hx, h1, h2, hz, q⟩ := h
  cases rx
  obtain ⟨t, rfl⟩ := ry
  obtain ⟨its, r1, p1, _⟩ := I.tuple ha
  obtain ⟨⟨cls, dd, data, sl⟩, ho, hc, n, hd⟩ := id p1
  simp only at hc hd
  subst hc hd
  have hlen : its.toArray.size * k.toNat <= sizeLine := by rw [List.size_toArray, <- r1.length]; exact hz
  have hne : ¬ its.toArray.isEmpty = true := by
    intro z
    apply hx
    exact r1.nil_iff.mp (by simpa using z)
  have hnew : List.foldl (fun x1 x2 => x1 ++ x2) #[] (List.replicate k.toNat its.toArray) = (List.replicate k.toNat its).flatten.toArray := by
    have := foldl_rep its k.toNat []
    rw [List.nil_append] at this
    exact this
  refine wpAny_binaryOp_repeat_ref (T := "tuple") (U := "int") (by decide) ⟨_, ho, rfl⟩ (fun s' => typeIs_int s' k t) HT.noFill_tuple_mul F.fills_int_mul F.slot_int_rmul HT.repeat_tuple F.slot_int_index.lookup
    (call_meets F.slot_int_rmul (typeIs_int s k t) F.entry_int_rmul (F.args_int_rmul_2 _ _) (HT.int_rmul_tuple k t a its.toArray n dd sl)
      ⟨ho, rfl, ⟨_, ho, rfl⟩, call_meets F.slot_tuple_mul ⟨_, ho, rfl⟩ F.entry_tuple_mul (F.args_tuple_mul_2 _ _) (HT.tuple_mulW a its.toArray n dd sl k t h1 h2 hne hlen) ⟨ho, ?_⟩⟩)
  rw [hnew]
  refine ⟨.ref s.heap.objs.size, _, I.laid (t' := s.toks) (o := .tup (List.replicate k.toNat xs).flatten) (fun b ob q => Heap.get?_push_of_some _ q) (Nat.le_refl _) ?_, rfl, q _ (I.hok.fresh (Nat.le_refl _))⟩
  exact ⟨by rw [len_rep, Nat.mul_comm]; exact hz, _, r1.rep k.toNat, IsTup.new _ _⟩
end L2
namespace D
open PySem L2 K0 Num
open PySem.W (Dat)
section
variable {p : Option Addr} {K : PySem.W.Frag} {W : Addr -> Prop} {H H0 : Hp} {τ : List Sl} {tas : TA} {te ta tb : TE}
theorem Dzs.rep {N : Addr -> Prop} {vs : List V} {ds : List Dat} (h : Dzs N K H vs ds) : ∀ n : Nat, Dzs N K H (List.replicate n vs).flatten (List.replicate n ds).flatten
  | 0 => .nil
  | n + 1 => by
    rw [List.replicate_succ, List.replicate_succ, List.flatten_cons, List.flatten_cons]
    exact h.app (Dzs.rep h n)
theorem E1.repT {xs : List Dat} {k : Int} {n : Nat} (ha : E1 p K ta τ (.dat (.tuple xs))) (hb : E1 p K tb τ (.dat (.int k))) (hx : xs ≠ []) (hk : k.toNat = n) (h2 : 2 <= n) (hz : xs.length * n <= sizeLine) (h3 : k < 2 ^ 63 := by decide) : E1 p K (tOp (rRepT K) ta tb) τ (.dat (.tuple (List.replicate n xs).flatten)) :=
  E1.op2 ha hb fun W H0 H x y Q o0 o r1 r2 q => by
    cases r2.int_inv
    cases r1 with
    | @tup aa ys _ h z =>
      subst hk
      refine ⟨_, k, _, rfl, rfl, h, fun e => hx ?_, by omega, h3, by rw [z.len]; exact hz, fun r hr => ?_⟩
      . have := z.len
        rw [e] at this
        exact List.length_eq_zero_iff.mp this.symm
      have s := Same.new hr (.tup (List.replicate k.toNat ys).flatten)
      exact q _ _ (Ev.of s) (o.same s) (.tup (SqT.of upd_same) ((Dzs.rep z _).ev (W := fun _ => False) (Ev.of s) fun _ _ z => z))
end
end D
namespace K0
open PySem L2
noncomputable def spMixed4 : Sp := fun vs H Q _ => ∃ (c k : Int), vs = [.int c, .int k] /\ Builtin.Int.intBits c <= 2 ^ 20 /\ 0 <= k /\ k <= 200 /\ ∀ d, 0 <= d -> d < 2147483587 -> Q (.int d) H
end K0
namespace D
open PySem L2 K0 Num
open PySem.W (Dat)
section
variable {p : Option Addr} {K : PySem.W.Frag} {W : Addr -> Prop} {H H0 : Hp} {τ : List Sl} {tas : TA} {te ta tb : TE}
noncomputable def AL (p : Option Addr) (K : PySem.W.Frag) (tas : TA) (τ : List Sl) (n : Nat) (P : Int -> Prop) : Prop := A p K tas τ (fun ss => ∃ ns : List Int, ss = ns.map (fun i => .dat (.int i)) /\ ns.length = n /\ ∀ m ∈ ns, P m)
theorem AL.nil {P : Int -> Prop} : AL p K tNil τ 0 P := fun W L σ H Q rs o q => A1.nil W L σ H Q rs o fun vs H' ss e => q vs H' ss ⟨[], e.symm, rfl, fun m h => by simp at h⟩
theorem AL.cons {P : Int -> Prop} {n : Nat} (h : EI p K te τ P) (t : AL p K tas τ n P) : AL p K (tCons te tas) τ (n + 1) P :=
  A.cons (C1 := fun s => ∃ i, s = .dat (.int i) /\ P i) h (fun _ _ => t) fun s ss ⟨i, e, hi⟩ ⟨ns, e2, l, hn⟩ => ⟨i :: ns, by rw [e, e2]; rfl, by rw [List.length_cons, l], fun m hm => by
    rcases List.mem_cons.mp hm with rfl | hm
    . exact hi
    . exact hn m hm⟩
theorem EL.li {P : Int -> Prop} {n : Nat} (h : AL p K tas τ n P) (hz : n <= sizeLine) : EL p K (tLst tas) τ n P := fun W L σ H Q rs o q => by
  refine h W L σ H _ rs o fun vs H1 ss ⟨ns, e, l, hn⟩ e1 o1 rv => ?_
  subst e
  have z : Dzs (fun a => ¬ W a) K H1 vs (ns.map .int) := by
    have : ns.map (fun i => Sl.dat (.int i)) = (ns.map Dat.int).map Sl.dat := by rw [List.map_map]; rfl
    rw [this] at rv
    exact rv.dats
  refine ⟨by rw [z.len, List.length_map, l]; exact hz, fun r hr => ?_⟩
  have s := Same.new hr (.lst vs)
  exact q _ _ _ ⟨ns, rfl, l, hn⟩ (e1.trans (Ev.of s)) (o1.same s) ⟨r, vs, rfl, o1.back e1 hr, upd_same, z.ev (W := fun _ => False) (Ev.of s) fun _ _ z => z⟩
theorem EI.pickC {P D : Int -> Prop} {n : Nat} (hl : EL p K ta τ n P) (hd : EI p K tb τ D) (hp : ∀ d, D d -> 0 <= d /\ d < (n : Int)) : EI p K (tOp (rIxL K) ta tb) τ P :=
  E.op2 (B := fun _ => True) (A := fun s => ∃ ns : List Int, s = .own (ns.map .int) /\ ns.length = n /\ ∀ m ∈ ns, P m) (B' := fun _ s => ∃ i, s = .dat (.int i) /\ D i) hl (fun _ _ => hd) fun s t ⟨ns, e, l, hn⟩ ⟨i, e2, hi⟩ W H0 H x y Q o0 o r1 r2 q => by
    subst e e2
    cases r2.int_inv
    obtain ⟨a, vs, rfl, h0, h1, h2⟩ := r1
    have ev := h2.inv
    subst ev
    obtain ⟨i0, i1⟩ := hp i hi
    obtain ⟨m, hm, e3⟩ := at_draw (ms := ns) i0 (by rw [l]; exact i1)
    exact ⟨a, _, i, _, rfl, rfl, SqL.of h1, e3, q _ H _ ⟨m, rfl, hn m hm⟩ Ev.refl o (.int _)⟩
end
noncomputable def RNum (b : Nat) : List Dat -> (Dat -> Prop) -> Prop := fun ds C => ds = [] /\ C = fun d => ∃ n : Int, d = .int n /\ n.natAbs <= b
noncomputable def RRow4 : List Dat -> (Dat -> Prop) -> Prop := fun ds C => (ds = [.int 4] /\ C = fun d => ∃ a b c e : Int, d = tI [a, b, c, e] /\ (∃ n ∈ [a, b, c, e], n ≠ 0) /\ Bd (2 ^ 80) [a, b, c, e]) \/ (ds = [.int 3] /\ C = fun d => ∃ a b c : Int, d = tI [a, b, c] /\ (∃ n ∈ [a, b, c], n ≠ 0) /\ Bd (2 ^ 80) [a, b, c])
end D
end
namespace D
open PySem L2 K0 Num
open PySem.W (Dat)
section
section
variable {p : Option Addr} {K : PySem.W.Frag} {W : Addr -> Prop} {L : List Addr} {σ : St} {H H1 H2 : Hp} {τ : List Sl} {tb te : TE} {v : V} {s : Sl} {nx : List Sl -> Prop} {rt : Sl -> Prop} {t : TS} {ds : List Dat} {wi : TI}
noncomputable def WkC (p : Option Addr) (K : PySem.W.Frag) (wi : TI) (τ : List Sl) (DD : List Dat -> Prop) : Prop := ∀ (W : Addr -> Prop) (L : List Addr) (σ : St) (H : Hp) (R : It -> Hp -> Prop), Rs p W K H L σ τ -> Ok p W H -> (∀ J H1 ds, DD ds -> Ev (Pp p) H H1 -> Ok p W H1 -> Jd W K J H1 ds -> R J H1) -> wi σ H R
theorem WkC.rng {P : Int -> Prop} (h : EI p K te τ P) (hp : ∀ j, P j -> -(2 ^ 62) <= j /\ j < 2 ^ 62) : WkC p K (iRng1 (tCons te tNil)) τ (fun ds => ∃ j, P j /\ ds = rangeD 0 j.toNat) := fun W L σ H R r o q => by
  refine h W L σ H _ r o fun v H1 s ⟨j, e, hj⟩ e1 o1 rv => ?_
  subst e
  cases rv.int_inv
  exact ⟨j, rfl, (hp j hj).1, (hp j hj).2, q _ H1 _ ⟨j, hj, rfl⟩ e1 o1 jd_rng⟩
theorem S.forC {g : TG} {tb : TS} {DD : List Dat -> Prop} (hw : WkC p K wi τ DD) (m : ∀ ds, DD ds -> ∃ I : Nat -> List Sl -> Prop, I 0 τ /\ (∀ i d τ1, ds[i]? = some d -> I i τ1 -> ∃ τ2, Gd p K g d τ1 τ2 /\ S p K tb τ2 (I (i + 1)) rt) /\ ∀ τ1, I ds.length τ1 -> nx τ1) : S p K (tFor wi g tb) τ nx rt := fun W L σ H D r o q1 q2 => by
  refine hw W L σ H _ r o fun J H1 ds hD e1 o1 jd => ?_
  obtain ⟨I, h0, turn, done⟩ := m ds hD
  have ew := e1.ofP o
  have hn : ∀ a, H1 a = none -> H a = none := fun a ha => ew.none o1.al ha
  refine ⟨fun i m σ' H' => m = ds.length - i /\ i <= ds.length /\ ∃ (W' : Addr -> Prop) (L' : List Addr) (τ1 : List Sl), I i τ1 /\ Ev W H1 H' /\ Ok p W' H' /\ (∀ a, W a -> ∃ ys, H' a = some ys) /\ (∀ a, W' a -> W a \/ H1 a = none) /\ (∀ a, a ∈ L' -> a ∈ L \/ H1 a = none) /\ Rs p W' K H' L' σ' τ1,
    ⟨ds.length, by omega, Nat.zero_le _, W, L, τ, h0, Ev.refl, o1, o1.al, fun _ h => .inl h, fun _ h => .inl h, r.ev e1 o.pw⟩, ?_⟩
  rintro i m σ' H' ⟨rfl, hi, W', L', τ1, hI, ev, ok, al, nn, ll, rs⟩
  obtain ⟨stop, each⟩ := jd W' H' ev nn
  by_cases hlt : i < ds.length
  . have hd : ds[i]? = some ds[i] := by simp [hlt]
    obtain ⟨go, yl⟩ := each i _ hd
    obtain ⟨τ2, hg, hb⟩ := turn i _ τ1 hd hI
    refine .inr ⟨go, fun σ'' H'' => ds.length - (i + 1) = ds.length - (i + 1) /\ i + 1 <= ds.length /\ ∃ (W' : Addr -> Prop) (L' : List Addr) (τ1 : List Sl), I (i + 1) τ1 /\ Ev W H1 H'' /\ Ok p W' H'' /\ (∀ a, W a -> ∃ ys, H'' a = some ys) /\ (∀ a, W' a -> W a \/ H1 a = none) /\ (∀ a, a ∈ L' -> a ∈ L \/ H1 a = none) /\ Rs p W' K H'' L' σ'' τ1, fun σ'' H'' h => ⟨_, by omega, h⟩, fun x H2 y => ?_⟩
    obtain ⟨s2, z2⟩ := yl x H2 y
    have e2 : Ev (Pp p) H' H2 := Ev.of s2
    have o2 := ok.same s2
    have ev2 : Ev W H1 H2 := ev.trans (Ev.of s2)
    have al2 : ∀ a, W a -> ∃ ys, H2 a = some ys := fun a ha => let ⟨ys, h⟩ := al a ha; ⟨ys, s2 _ _ h⟩
    have hn2 : ∀ a, H2 a = none -> H1 a = none := fun a ha => ev2.none al2 ha
    refine hg W' L' σ' H2 x _ (rs.ev e2 ok.pw) z2 fun L3 σ3 l3 rs3 => ?_
    refine hb W' L3 σ3 H2 _ rs3 o2 (fun W4 L4 σ4 H4 τ4 c e4 o4 w4 n4 l4 r4 => ?_) (fun W4 H4 v s c e4 o4 w4 n4 rv => ?_)
    . exact ⟨rfl, hlt, W4, L4, τ4, c, ev2.chain e4 nn, o4, al_chain al2 w4 e4, fun a ha => (n4 a ha).elim (nn a) fun z => .inr (hn2 a z), fun a ha => (l4 a ha).elim (fun z => ll a (l3 a z)) fun z => .inr (hn2 a z), r4⟩
    . have nn' : ∀ a, W' a -> W a \/ H a = none := fun a ha => (nn a ha).imp id (hn a)
      refine q2 W4 H4 v s c ((ew.trans ev2).chain e4 nn') o4 (al_chain al2 w4 e4) (fun a ha => (n4 a ha).elim (nn' a) fun z => .inr (hn a (hn2 a z))) (rv.base (fun a z => hn a (hn2 a z)) fun a ha => ?_)
      exact (ll a (l3 a ha)).imp id (hn a)
  . have e : i = ds.length := by omega
    subst e
    exact .inl ⟨stop, q1 W' L' σ' H' τ1 (done τ1 hI) (ew.trans ev) ok al (fun a ha => (nn a ha).imp id (hn a)) (fun a ha => (ll a ha).imp id (hn a)) rs⟩
end
theorem first_at' : ∀ {ns : List Int}, (∃ n ∈ ns, n ≠ 0) -> (ns.filter (fun n => !decide (n = 0)))[0]? = some (fst0 ns)
  | [], h => by obtain ⟨n, hn, _⟩ := h; simp at hn
  | n :: r, h => by
    unfold fst0
    by_cases z : n = 0
    . subst z
      rw [if_pos rfl, List.filter_cons_of_neg (by simp)]
      refine first_at' ?_
      obtain ⟨m, hm, m0⟩ := h
      rcases List.mem_cons.mp hm with rfl | hm
      . exact absurd rfl m0
      . exact ⟨m, hm, m0⟩
    . rw [if_neg z, List.filter_cons_of_pos (by simpa using z)]; rfl
noncomputable def RPl : List Dat -> Dat -> Prop := fun ds d => ∃ ns : List Int, ds = [tI ns] /\ ns.length <= 1000 /\ (∃ n ∈ ns, n ≠ 0) /\ Sm ns /\ d = tI (pl ns)
noncomputable def F4 (b : Nat) (f : List Int) : Prop := f.length = 4 /\ (∃ n ∈ f, n ≠ 0) /\ Bd (2 ^ b) f
theorem F4.up {b c : Nat} {f : List Int} (h : F4 b f) (hc : b <= c) : F4 c f := ⟨h.1, h.2.1, bd_mono h.2.2 (Nat.pow_le_pow_right (by decide) hc)⟩
noncomputable def RThen4 : List Dat -> Dat -> Prop := fun ds d => ∃ ns ms : List Int, ds = [tI ns, tI ms] /\ F4 2000 ns /\ F4 2000 ms /\ d = tI (pl (qm ms ns))
noncomputable def RBack4 : List Dat -> Dat -> Prop := fun ds d => ∃ ns : List Int, ds = [tI ns] /\ F4 2000 ns /\ d = tI (pl (cj ns))
noncomputable def RMk : List Dat -> Dat -> Prop := fun ds d => ∃ t b : Int, ds = [.int t, .int b] /\ 0 < b /\ Bt b 8000 /\ d = tI (fr t b)
noncomputable def RRest4 : List Dat -> Dat -> Prop := fun ds d => ∃ ns : List Int, ds = [tI ns] /\ F4 2000 ns /\ d = tI (rs ns)
noncomputable def RBetw : List Dat -> Dat -> Prop := fun ds d => ∃ ns ms : List Int, ds = [tI ns, tI ms] /\ F4 1000 ns /\ F4 1000 ms /\ d = tI [sop ns ms * sop ns ms, nrm ns * nrm ms]
noncomputable def Sts (b : Nat) (fs : List (List Int)) : Prop := ∀ f ∈ fs, F4 b f
noncomputable def stD (fs : List (List Int)) : Dat := .list (fs.map tI)
noncomputable def rb (ns ms : List Int) : List Int := fr (sop ns ms * sop ns ms) (nrm ns * nrm ms)
noncomputable def RStep : List Dat -> Dat -> Prop := fun ds d => ∃ (fs : List (List Int)) (i j : Nat) (f g : List Int), ds = [stD fs, .int i, .int j] /\ Sts 1000 fs /\ fs[i]? = some f /\ fs[j]? = some g /\ d = tI (rb f g)
theorem rb_rest {f g : List Int} {a b : Nat} (hf : F4 a f) (hg : F4 b g) : rs (pl (qm g (pl (cj f)))) = rb f g := by
  obtain ⟨l1, n1, _⟩ := hf
  obtain ⟨l2, n2, _⟩ := hg
  have nc := nz_cj l1 n1
  have lc := cj_len l1
  have np := nz_pl nc
  have lp : (pl (cj f)).length = 4 := by rw [pl_length]; exact lc
  rw [pl_qmR l2 lc n2 nc, rs_pl (qm_len l2 lc) (nz_qm l2 lc n2 nc)]
  obtain ⟨a0, a1, a2, a3, rfl⟩ := four_of l1
  obtain ⟨b0, b1, b2, b3, rfl⟩ := four_of l2
  have hn := nrm_qm (ns := [b0, b1, b2, b3]) (ms := cj [a0, a1, a2, a3]) rfl rfl
  rw [nrm_cj (ns := [a0, a1, a2, a3]) rfl] at hn
  unfold rb
  have e0 : sop [a0, a1, a2, a3] [b0, b1, b2, b3] = b0 * a0 - b1 * -a1 - b2 * -a2 - b3 * -a3 := by
    show a0 * b0 + (a1 * b1 + (a2 * b2 + (a3 * b3 + 0))) = _
    grind
  rw [e0, Int.mul_comm (nrm [a0, a1, a2, a3]), <- hn]
  rfl
theorem sop_nrm {f : List Int} (l : f.length = 4) : sop f f = nrm f := by
  obtain ⟨a0, a1, a2, a3, rfl⟩ := four_of l
  exact sop4 _ _ _ _
theorem sop_bt {f g : List Int} {a b : Nat} (hf : F4 a f) (hg : F4 b g) : Bt (sop f g) (a + b + 3) := by
  obtain ⟨l1, _, h1⟩ := hf
  obtain ⟨l2, _, h2⟩ := hg
  obtain ⟨a0, a1, a2, a3, rfl⟩ := four_of l1
  obtain ⟨b0, b1, b2, b3, rfl⟩ := four_of l2
  obtain ⟨p0, p1, p2, p3⟩ := bd_bt4 h1
  obtain ⟨q0, q1, q2, q3⟩ := bd_bt4 h2
  have e : sop [a0, a1, a2, a3] [b0, b1, b2, b3] = ((a0 * b0 + a1 * b1) + (a2 * b2 + a3 * b3)) := by
    show a0 * b0 + (a1 * b1 + (a2 * b2 + (a3 * b3 + 0))) = _
    omega
  rw [e]
  exact Bt.up (Bt.add (Bt.add (p0.mul q0) (p1.mul q1)) (Bt.add (p2.mul q2) (p3.mul q3))) (by omega)
theorem st_at {fs : List (List Int)} {i : Nat} {f : List Int} (h : fs[i]? = some f) : (fs.map tI)[i]? = some (tI f) := by rw [List.getElem?_map, h]; rfl
end
end D
section
namespace D
open PySem L2 K0 Num
open PySem.W (Dat)
section
variable {p : Option Addr} {K : PySem.W.Frag} {W : Addr -> Prop} {L : List Addr} {σ : St} {H H1 H2 : Hp} {τ : List Sl} {te : TE} {v : V} {s : Sl} {u : TS} {ds : List Dat} {wi : TI} {tt : TT}
theorem E.compW {DD : List Dat -> Prop} {no : Nat} {g : TG} (hw : WkC p K wi τ DD) (own : Dat -> List Sl) (hg : ∀ ds, DD ds -> ∀ d, d ∈ ds -> Gc p K no g d (own d)) (kp : Dat -> Bool) (Cd : Dat -> Dat -> Prop) (ht : ∀ ds, DD ds -> ∀ d, d ∈ ds -> T1 p K tt (own d ++ τ) (kp d))
    (turn : ∀ ds, DD ds -> ∀ d, d ∈ ds -> kp d = true -> E p K te (own d ++ τ) (fun s => ∃ e, s = .dat e /\ Cd d e)) (hz : ∀ ds, DD ds -> ds.length <= sizeLine) :
    E p K (tCompB no wi g tt te) τ (fun s => ∃ es ds, DD ds /\ s = .own es /\ es.length = (ds.filter kp).length /\ ∀ (i : Nat) (e : Dat), es[i]? = some e -> ∃ d, (ds.filter kp)[i]? = some d /\ Cd d e) := fun W L σ H Q r o q => by
  refine hw W L σ H _ r o fun J H1 ds hDD e1 o1 jd => ?_
  replace hg := hg ds hDD
  replace ht := ht ds hDD
  replace turn := turn ds hDD
  replace hz := hz ds hDD
  intro D hD
  have nD := o1.fresh hD
  have pD := o1.np hD
  have r1 := r.ev e1 o.pw
  have r1' : Rs p (fun b => W b \/ b = D) K H1 L σ τ := r1.wide (fun _ h => .inl h) fun b hb nb => (hb.resolve_left nb) ▸ hD
  refine ⟨fun i m σ' H' => m = ds.length - i /\ i <= ds.length /\ (∃ ρ, ρ.length = no /\ σ' = ρ ++ σ) /\ Ev (fun a => Pp p a \/ a = D) H1 H' /\ (∀ q, p = some q -> Pu H' q) /\ ∃ (vs : List V) (es : List Dat), H' D = some (.lst vs) /\ Dzs (fun b => ¬ (W b \/ b = D)) K H' vs es /\ es.length = ((ds.take i).filter kp).length /\ ∀ (j : Nat) (e : Dat), es[j]? = some e -> ∃ d, ((ds.take i).filter kp)[j]? = some d /\ Cd d e,
    ⟨ds.length, by omega, Nat.zero_le _, ⟨List.replicate no none, by simp, rfl⟩, ⟨fun b u nb h => by rw [upd_ne (fun z => nb (.inr z))]; exact h, (Same.new hD _).tm⟩, fun q hq => (o1.pu q hq).1.same (Same.new hD _), [], [], upd_same, .nil, by simp, fun j e h => by simp at h⟩, ?_⟩
  rintro i m σ' H' ⟨rfl, hi, ⟨ρ, lρ, rfl⟩, ev, pu, vs, es, hv, zv, le, hes⟩
  have evW : Ev W H1 H' := ⟨fun b u nb h => ev.keep b u (fun z => z.elim (fun y => nb (o1.pw b y)) fun y => by rw [y] at h; rw [hD] at h; cases h) h, ev.tm⟩
  have ok' : Ok p (fun b => W b \/ b = D) H' := ⟨fun q hq => ⟨pu q hq, .inl (o1.pw q hq)⟩, fun b hb => by
    by_cases z : b = D
    . subst z; exact ⟨_, hv⟩
    . by_cases y : p = some b
      . obtain ⟨x1, x2, h⟩ := pu b y; exact ⟨_, h⟩
      . obtain ⟨ys, h⟩ := o1.al b (hb.resolve_right z)
        exact ⟨ys, ev.keep _ _ (fun w => w.elim y z) h⟩⟩
  have evD : Ev (fun b => W b \/ b = D) H1 H' := evW.mono fun _ h => .inl h
  have rs' : Rs p (fun b => W b \/ b = D) K H' L σ τ := by
    refine Rs.evx r1' ev (fun a ha z => ?_) fun a u ha np z => ?_
    . rcases z with z | z
      . exact ha (.inl (o1.pw a z))
      . exact ha (.inr z)
    . rcases z with z | z
      . exact np z
      . rw [z, hD] at ha; cases ha
  obtain ⟨stop, each⟩ := jd (fun b => W b \/ b = D) H' evW fun a ha => ha.imp id fun z => by rw [z]; exact hD
  have o1f : H D = none := o1.back e1 hD
  by_cases hlt : i < ds.length
  . have hd : ds[i]? = some ds[i] := by simp [hlt]
    have hm : ds[i] ∈ ds := List.getElem_mem hlt
    obtain ⟨go, yl⟩ := each i _ hd
    have tk : ds.take (i + 1) = ds.take i ++ [ds[i]] := by rw [List.take_add_one]; simp [hlt]
    refine .inr ⟨go, fun x H2 y => ?_⟩
    obtain ⟨s2, z2⟩ := yl x H2 y
    have ok2 := ok'.same s2
    refine hg _ hm _ L ρ σ τ H2 x _ lρ (rs'.ev (Ev.of s2) ok'.pw) z2 fun ρ' lρ' rs2 => ?_
    refine ht _ hm _ L _ H2 _ rs2 ok2 fun b H4 eb e4 o4 => ?_
    have pvH : Ev (fun a => Pp p a \/ a = D) H' H4 := (Ev.of s2).trans (e4.mono fun _ h => .inl h)
    have hv4 : H4 D = some (.lst vs) := e4.keep _ _ pD (s2 _ _ hv)
    have zv4 : Dzs (fun b => ¬ (W b \/ b = D)) K H4 vs es := (zv.ev (W := fun _ => False) (Ev.of s2) fun _ _ h => h).ev e4 fun a ha z => ha (.inl (o1.pw a z))
    subst eb
    by_cases hk : kp ds[i] = true
    . rw [if_pos hk]
      refine turn _ hm hk _ L _ H4 _ (rs2.ev e4 ok2.pw) o4 fun v H5 s c e5 o5 rv => ?_
      obtain ⟨e, rfl, ce⟩ := c
      have hv5 : H5 D = some (.lst vs) := e5.keep _ _ pD hv4
      have zv5 := zv4.ev e5 fun a ha z => ha (.inl (o1.pw a z))
      have ll : vs.length <= i := by rw [zv.len, le]; exact Nat.le_trans (List.length_filter_le _ _) (by rw [List.length_take]; omega)
      have evu : Ev (fun b => b = D) H5 (upd H5 D (.lst (vs ++ [v]))) := ⟨fun b o n h => by rw [upd_ne n]; exact h, Tm.lst hv5 _⟩
      refine ⟨vs, hv5, by omega, ds.length - (i + 1), by omega, rfl, hlt, ⟨ρ', lρ', rfl⟩, (ev.trans (pvH.trans (e5.mono fun _ h => .inl h))).trans (evu.mono fun _ h => .inr h), fun q hq => ?_, vs ++ [v], es ++ [e], upd_same, (zv5.app (.cons rv .nil)).ev evu fun b hb z => hb (.inr z), ?_, fun j f hj => ?_⟩
      . obtain ⟨x1, x2, h⟩ := (o5.pu q hq).1
        exact ⟨x1, x2, by rw [upd_ne (fun z => pD (by rw [<- z]; exact hq))]; exact h⟩
      . rw [tk, List.filter_append, List.length_append, List.length_append, le]; simp [hk]
      . rw [tk, List.filter_append]
        have h1 : [ds[i]].filter kp = [ds[i]] := by simp [hk]
        rw [h1]
        by_cases hj2 : j < es.length
        . rw [List.getElem?_append_left hj2] at hj
          rw [List.getElem?_append_left (by rw [<- le]; exact hj2)]
          exact hes j f hj
        . rw [List.getElem?_append_right (by omega)] at hj
          have ej : j - es.length = 0 := by
            have := (List.getElem?_eq_some_iff.mp hj).1
            simp at this; omega
          rw [ej] at hj
          cases hj
          rw [List.getElem?_append_right (by omega), <- le, ej]
          exact ⟨_, rfl, ce⟩
    . rw [if_neg hk]
      refine ⟨ds.length - (i + 1), by omega, rfl, hlt, ⟨ρ', lρ', rfl⟩, ev.trans pvH, fun q hq => (o4.pu q hq).1, vs, es, hv4, zv4, ?_, fun j f hj => ?_⟩
      . rw [tk, List.filter_append, List.length_append, le]; simp [hk]
      . obtain ⟨d, h1, h2⟩ := hes j f hj
        rw [tk, List.filter_append]
        have h3 : [ds[i]].filter kp = [] := by simp [hk]
        rw [h3, List.append_nil]
        exact ⟨d, h1, h2⟩
  . have e : i = ds.length := by omega
    subst e
    rw [List.take_length] at le hes
    have evP : Ev (Pp p) H1 H' := ⟨fun b u nb h => ev.keep b u (fun z => z.elim nb fun y => by rw [y] at h; rw [hD] at h; cases h) h, ev.tm⟩
    refine .inl ⟨stop, q _ H' _ ⟨es, ds, hDD, rfl, le, hes⟩ (e1.trans evP) (o1.ev evP pu) ⟨D, vs, rfl, o1f, hv, zv.mono fun a ha z => ha (.inl z)⟩⟩
theorem E.compCW {DD : List Dat -> Prop} {Cd : Dat -> Dat -> Prop} (hw : WkC p K wi τ DD) (turn : ∀ ds, DD ds -> ∀ d, d ∈ ds -> E p K te (.dat d :: τ) (fun s => ∃ e, s = .dat e /\ Cd d e)) (hz : ∀ ds, DD ds -> ds.length <= sizeLine) :
    E p K (tCompB 1 wi (gName 0) tAll te) τ (fun s => ∃ es, s = .own es /\ ∃ ds, DD ds /\ es.length = ds.length /\ ∀ (i : Nat) (e : Dat), es[i]? = some e -> ∃ d, ds[i]? = some d /\ Cd d e) :=
  (E.compW (no := 1) (g := gName 0) hw (fun d => [.dat d]) (fun _ _ d _ => Gc.name) (fun _ => true) Cd (fun _ _ d _ => T1.all) (fun ds h d hd _ => turn ds h d hd) hz).mono fun s ⟨es, ds, h, e, l, he⟩ => ⟨es, e, ds, h, by rw [l, filter_true], fun i x hx => by
    have := he i x hx
    rw [filter_true] at this
    exact this⟩
theorem WkC.tup {DD : List Dat -> Prop} (h : E p K te τ (fun s => ∃ ds, s = .dat (.tuple ds) /\ DD ds)) : WkC p K (iTup K te) τ DD := fun W L σ H R r o q => by
  refine h W L σ H _ r o fun v H1 s ⟨ds, e, hd⟩ e1 o1 rv => ?_
  subst e
  cases rv with
  | tup h1 h2 =>
    rename_i a xs
    refine ⟨a, rfl, ⟨xs, h1⟩, q _ H1 _ hd e1 o1 fun W' H' ev n => ?_⟩
    have h1' := ev.tm _ _ _ h1
    have h2' := Dzs.old ev n h2
    refine ⟨⟨xs, h1', by rw [h2.len]; exact Nat.le_refl _⟩, fun i d hd => ?_⟩
    obtain ⟨x, ex, zx⟩ := h2'.get hd
    exact ⟨⟨xs, x, h1', ex⟩, fun y H2 ⟨e, q⟩ => by
      subst e
      have := q xs h1'
      rw [ex] at this; cases this
      exact ⟨Same.refl _, zx⟩⟩
end
end D
namespace D
open PySem L2 K0 Num
open PySem.W (Dat)
theorem noLs_tIs : ∀ {fs : List (List Int)}, noLs (fs.map tI) = true
  | [] => rfl
  | f :: r => by
    show (noL (tI f) && noLs (r.map tI)) = true
    rw [noLs_tIs, show noL (tI f) = true from noLs_ints _]; rfl
end D
namespace D
open PySem L2 K0 Num
open PySem.W (Dat)
end D
end
namespace D
open PySem L2 K0 Num
open PySem.W (Dat)
noncomputable def nd (kind : Int) : Nat := if kind = 0 then 1 else if kind = 4 then 3 else 2
noncomputable def pw (ns : List Int) : Nat -> List Int
  | 0 => ns
  | k + 1 => qm ns (pw ns k)
section
end
noncomputable def tn (ns : List Int) : Nat -> List Int
  | 0 => [1, 0, 0, 0]
  | k + 1 => pl (pw ns k)
end D
section
namespace L2
open PySem PySem.Spec PyProof.Rows
section
noncomputable abbrev zs (h : Heap) (sx : Str) (t : Tok) : Heap := h.push { cls := .type "str_ascii_iterator", data := .fields #[.str sx t, .int 0 0] }
end
section
end
end L2
end
section
namespace L2
open PySem PySem.Spec PyProof.Rows
section
end
end L2
namespace D
open PySem L2 K0 Num
open PySem.W (Dat)
section
end
noncomputable def hg (i j k : Nat) : Str := ⟨#[120 + i, 120 + j, 120 + k]⟩
noncomputable def w1 (i : Nat) : Int := if i = 0 then 1 else 0
noncomputable def w2 (i : Nat) : Int := if i = 1 then 1 else 0
noncomputable def w3 (i : Nat) : Int := if i = 2 then 1 else 0
noncomputable def hu (f g h : List Int) : List Int := pl (qm f (qm g h))
section
variable {f g h : List Int}
end
end D
end
section
namespace L2
open PySem PySem.Spec PyProof.Rows
section
end
end L2
namespace D
open PySem L2 K0 Num
open PySem.W (Dat)
section
end
noncomputable def places : List (Str × Int) := [("x", 1), ("y", 2), ("z", 3)]
noncomputable def hd (i j : Nat) : Int := if (i + 1) % 3 = j then 1 else -1
noncomputable def le3 (i j k : Nat) : Int := if i = k then 0 else hd i j
end D
end
namespace D
open PySem L2 K0 Num
open PySem.W (Dat)
noncomputable def lea (i j k : Nat) (m n : Int) : List Int := ps (m * 1 + n * le3 i j k) (n * 1 - m * le3 i j k)
noncomputable def fstS (p q r s m n : Int) : Int × Int := if p * m + r * n = 0 /\ q * m + s * n = 0 then (p * m * 0 + q * m * 1, q * m * 0 - p * m * 1) else (p * m + r * n, q * m + s * n)
noncomputable def sby (i j k : Nat) (p q r s m n : Int) : Dat := .tuple [tI (ps (fstS p q r s m n).1 (fstS p q r s m n).2), tI (lea i j k m n), tI (ps (p * m * (fstS p q r s m n).2 + q * m * -(fstS p q r s m n).1) (q * m * (fstS p q r s m n).2 - p * m * -(fstS p q r s m n).1))]
noncomputable def rowD (x : List (List Int)) : Dat := .tuple (x.map tI)
section
end
noncomputable def sbyR (i j k : Nat) (p q r s m n : Int) : List (List Int) := [ps (fstS p q r s m n).1 (fstS p q r s m n).2, lea i j k m n, ps (p * m * (fstS p q r s m n).2 + q * m * -(fstS p q r s m n).1) (q * m * (fstS p q r s m n).2 - p * m * -(fstS p q r s m n).1)]
theorem sby_row {i j k : Nat} {p q r s m n : Int} : sby i j k p q r s m n = rowD (sbyR i j k p q r s m n) := rfl
section
noncomputable def Pu3 (N : Nat) (H : Hp) (q : Addr) : Prop := ∃ x c n : Int, H q = some (.lst [.int x, .int c, .int n]) /\ 0 <= n /\ n <= N
structure P3 (q : Addr) (ip N : Nat) (W : Addr -> Prop) (L : List Addr) (σ : St) (H : Hp) : Prop where
  wq : W q
  lq : q ∉ L
  sq : σ[ip]? = some (some (.ref q))
  pu : Pu3 N H q
section
variable (q : Addr) (ip N M : Nat) (K : PySem.W.Frag)
noncomputable def T2 (tt : TT) (τ : List Sl) (C : Bool -> Prop) : Prop := ∀ (W : Addr -> Prop) (L : List Addr) (σ : St) (H : Hp) (Q : Bool -> Hp -> Prop), Rs none W K H L σ τ -> Ok none W H -> P3 q ip N W L σ H -> (∀ b H', C b -> Ev (fun a => a = q) H H' -> Ok none W H' -> Pu3 M H' q -> Q b H') -> tt σ H Q
noncomputable def S2 (ts : TS) (τ : List Sl) (nx : List Sl -> Prop) (rt : Sl -> Prop) : Prop := ∀ (W : Addr -> Prop) (L : List Addr) (σ : St) (H : Hp) (D : Ends), Rs none W K H L σ τ -> Ok none W H -> P3 q ip N W L σ H ->
  (∀ (W' : Addr -> Prop) (L' : List Addr) σ' H' τ', nx τ' -> Ev W H H' -> Ok none W' H' -> (∀ a, W a -> ∃ ys, H' a = some ys) -> (∀ a, W' a -> W a \/ H a = none) -> (∀ a, a ∈ L' -> a ∈ L \/ H a = none) -> Rs none W' K H' L' σ' τ' -> P3 q ip M W' L' σ' H' -> D.nx σ' H') ->
  (∀ (W' : Addr -> Prop) H' v s, rt s -> Ev W H H' -> Ok none W' H' -> (∀ a, W a -> ∃ ys, H' a = some ys) -> (∀ a, W' a -> W a \/ H a = none) -> Rr none W' K L H H' v s -> Pu3 M H' q -> D.rt v H') -> ts D σ H
end
section
variable {q : Addr} {ip N M : Nat} {K : PySem.W.Frag} {W : Addr -> Prop} {L : List Addr} {σ : St} {H H' : Hp} {τ τ' : List Sl} {v : V} {s : Sl} {nx : List Sl -> Prop} {rt : Sl -> Prop} {tt : TT}
end
end
section
section
variable {q : Addr} {N : Nat} {K : PySem.W.Frag} {W : Addr -> Prop} {H H' : Hp} {τ' : List Sl} {v : V} {s : Sl} {t : TS} {ds : List Dat}
variable {P : Program} {w : World} {mg : Str -> Option Value} {base : Heap}
noncomputable def spN (K : PySem.W.Frag) (R : List Dat -> List Dat -> Prop) : Sp := fun vs H Q _ => ∃ ds es, Dzs (fun _ => True) K H vs ds /\ R ds es /\ ∀ a H' ws, Same H H' -> H a = none -> H' a = some (.lst ws) -> Dzs (fun _ => True) K H' ws es -> Q (.ref a) H'
theorem okN {x qual : Str} {st : Stmt} {f : Addr} {fd : FuncData} {N ps : List Str} {k : Nat} {R : List Dat -> List Dat -> Prop} (F : Fun K x qual st f fd) (S0 : FnScope N ps (defScope st)) (len : ∀ ds d, R ds d -> ds.length = ps.length)
    (body : ∀ (cdv : Value) (A : Around) (outer : List Env) (s : Shared) (H : Hp) (E : XK), Room k (A.deeper (PyProof.Rows.envOfC qual (defScope st) s.heap.objs.size f cdv)) ->
      ∃ t, ZSs (cxOf CX0 P w K mg base N qual (defScope st) f cdv A outer s H E).nox (defBody st) t /\ ∀ ds es, R ds es -> S none K t (ds.map .dat ++ List.replicate (N.length - ps.length) .un) (fun _ => False) (fun s => s = .own es)) : FnOk P w K mg base CX0 (k + 1) f fd ps (spN K R) := by
  refine F.okZ S0 (fun vs H Q E h => ?_) (fun cdv A outer s H vs Q E hr h => ?_)
  . obtain ⟨ds, d, z, r, _⟩ := h; rw [z.len]; exact len ds d r
  . obtain ⟨ds, es, z, r, q⟩ := h
    obtain ⟨t, hz, hs⟩ := body cdv A outer s H E hr
    refine ⟨t, hz, ?_⟩
    have l : vs.length = ps.length := by rw [z.len]; exact len ds es r
    have r0 : Rs none (fun _ => False) K H [] (L2.start N vs) (ds.map .dat ++ List.replicate (N.length - ps.length) .un) := by
      unfold L2.start
      rw [l]
      exact rs_start _ z fun a _ h => h
    have same : ∀ {H' : Hp}, Ev (fun _ => False) H H' -> Same H H' := fun e b o h => e.keep b o (fun z => z) h
    refine hs ds es r (fun _ => False) [] _ H _ r0 ⟨fun q h => (by cases h), fun a h => False.elim h⟩ (fun W' L' σ' H' τ' e ev o' al n l r' => e.elim) (fun W' H' v s e ev o' al n rv => ?_)
    subst e
    obtain ⟨a, vs, rfl, h1, h2, h3⟩ := rv
    exact q a H' vs (same ev) (h1.resolve_left (fun z => by cases z)) h2 (h3.mono fun _ _ => trivial)
end
end
theorem red_le {m : Nat} {ns : List Int} (h : Bd m ns) : Bd m (red ns) := fun k hk => by
  unfold red at hk
  obtain ⟨n, hn, rfl⟩ := List.mem_map.mp hk
  refine Nat.le_trans ?_ (h n hn)
  rw [show (n / (gcdN ns : Int)).natAbs = (n / (gcdN ns : Int)).natAbs from rfl]
  exact Int.natAbs_ediv_le_natAbs n _
section
end
end D
section
namespace L2
open PySem PySem.Spec PyProof.Rows
end L2
namespace D
open PySem L2 K0 Num
open PySem.W (Dat)
section
variable {q : Addr} {ip N M : Nat} {K : PySem.W.Frag} {W : Addr -> Prop} {L : List Addr} {σ : St} {H H1 : Hp} {τ : List Sl} {ds : List Dat} {wi : TI}
noncomputable def W2 (q : Addr) (ip N M : Nat) (K : PySem.W.Frag) (wi : TI) (τ : List Sl) (P : List Dat -> Prop) : Prop := ∀ (W : Addr -> Prop) (L : List Addr) (σ : St) (H : Hp) (R : It -> Hp -> Prop), Rs none W K H L σ τ -> Ok none W H -> P3 q ip N W L σ H -> (∀ ds J H1, P ds -> Ev (fun a => a = q) H H1 -> Ok none W H1 -> Pu3 M H1 q -> Jd W K J H1 ds -> R J H1) -> wi σ H R
end
end D
end
section
namespace L2
open PySem PySem.Spec PyProof.Rows
open PySem.W (Dat kqdOk kqdP kqdPs)
noncomputable def rInD (K : PySem.W.Frag) (neg : Bool) : R2 := fun x y H Q => ∃ d ds r, Is K H x d /\ Is K H y (.list ds) /\ kqdOk 8 d = true /\ (∀ e ∈ ds, kqdOk 8 e = true) /\ (r = true ↔ d ∈ ds) /\ Q (.bl (if neg then !r else r)) H
section
variable {X : Cx}
theorem any_in {ds : List Dat} {d : Dat} (ha : ∀ e ∈ ds, kqdOk 8 e = true) (hd : kqdOk 8 d = true) {b : Bool} (hb : b = true ↔ d ∈ ds) : ((kqdPs ds).any fun y => PyData.eqv y (kqdP d)) = b := by
  have k := PySem.W.kqd_any ds d ha hd
  rw [Bool.eq_iff_iff, k, hb]
theorem op_inD (hu : X.A.units + 64 < cLine) : OpR X (compareOp .In) (rInD X.K false) := by
  intro pins s σ H x y v u Q I rx ry h
  obtain ⟨d, ds, r, hd, hs, k1, k2, hr, q⟩ := h
  obtain ⟨as, ra⟩ := hd.reads I rx
  obtain ⟨bs, rb⟩ := hs.reads I ry
  rw [kqdP] at rb
  have l1 := PySem.W.kqd_layL k2
  have l2 := PySem.W.kqd_lay 8 d k1
  refine SeqAt.in_list_reads rb ra l1.1 l2.1 (by have := Nat.min_le_right (PyData.depthAll (kqdPs ds)) (kqdP d).depth; have := l2.2; omega) ?_
  rw [any_in k2 k1 hr]
  exact ⟨.bl _, H, I, rfl, q⟩
theorem op_notInD (hu : X.A.units + 64 < cLine) : OpR X (compareOp .NotIn) (rInD X.K true) := by
  intro pins s σ H x y v u Q I rx ry h
  obtain ⟨d, ds, r, hd, hs, k1, k2, hr, q⟩ := h
  obtain ⟨as, ra⟩ := hd.reads I rx
  obtain ⟨bs, rb⟩ := hs.reads I ry
  rw [kqdP] at rb
  have l1 := PySem.W.kqd_layL k2
  have l2 := PySem.W.kqd_lay 8 d k1
  refine SeqAt.notIn_list_reads rb ra l1.1 l2.1 (by have := Nat.min_le_right (PyData.depthAll (kqdPs ds)) (kqdP d).depth; have := l2.2; omega) ?_
  rw [any_in k2 k1 hr]
  exact ⟨.bl _, H, I, rfl, q⟩
end
end L2
namespace D
open PySem L2 K0 Num
open PySem.W (Dat)
section
variable {p : Option Addr} {K : PySem.W.Frag} {τ : List Sl} {ta tb : TE}
theorem E1.inD {a b : Sl} {d : Dat} {ds : List Dat} {r : Bool} (ha : E1 p K ta τ a) (hb : E1 p K tb τ b) (ea : datOf a = some d) (eb : datOf b = some (.list ds)) (k1 : PySem.W.kqdOk 8 d = true) (k2 : ∀ e ∈ ds, PySem.W.kqdOk 8 e = true) (hr : r = true ↔ d ∈ ds) : E1 p K (tOp (rInD K false) ta tb) τ (.dat (.bool r)) :=
  E1.op2 ha hb fun W H0 H x y Q o0 o r1 r2 q => ⟨d, ds, r, r1.isD ea, r2.isD eb, k1, k2, hr, q _ H Ev.refl o (.bool _)⟩
theorem E1.notInD {a b : Sl} {d : Dat} {ds : List Dat} {r : Bool} (ha : E1 p K ta τ a) (hb : E1 p K tb τ b) (ea : datOf a = some d) (eb : datOf b = some (.list ds)) (k1 : PySem.W.kqdOk 8 d = true) (k2 : ∀ e ∈ ds, PySem.W.kqdOk 8 e = true) (hr : r = true ↔ d ∈ ds) : E1 p K (tOp (rInD K true) ta tb) τ (.dat (.bool (!r))) :=
  E1.op2 ha hb fun W H0 H x y Q o0 o r1 r2 q => ⟨d, ds, r, r1.isD ea, r2.isD eb, k1, k2, hr, q _ H Ev.refl o (.bool _)⟩
end
end D
end
section
namespace L2
open PySem PySem.Spec PyProof.Rows
end L2
namespace D
open PySem L2 K0 Num
open PySem.W (Dat)
section
variable {p : Option Addr} {K : PySem.W.Frag} {τ : List Sl}
theorem E1.callN {tas : TA} {E' : XK} {R : List Dat -> List Dat -> Prop} {ss : List Sl} {ds es : List Dat} (ha : A1 p K tas τ ss) (hr : R ds es) (nl : noLs es = true := by rfl) (hd : datsOf ss = some ds := by rfl) : E1 p K (tCall (spN K R) [] E' tas) τ (.own es) := fun W L σ H Q rs o q => ha W L σ H _ rs o fun vs H1 ss e e1 o1 rv => by
  subst e
  rw [List.append_nil]
  exact ⟨ds, es, rv.dz hd, hr, fun a H' ws s h0 h1 z => q _ H' _ rfl (e1.trans (Ev.of s)) (o1.same s) ⟨a, ws, rfl, o1.back e1 h0, h1, z.free nl⟩⟩
theorem S.asgO {te : TE} {ds : List Dat} {i : Nat} {nx : List Sl -> Prop} {rt : Sl -> Prop} {τ' : List Sl} (h : E1 p K te τ (.own ds)) (nl : noLs ds = true) (m : nx τ') (e0 : τ.set i (.own ds) = τ' := by rfl) : S p K (tAsg te (gName i)) τ nx rt := fun W L σ H D r o q1 q2 => by
  refine h W L σ H _ r o fun v H1 s c e o1 rv => ?_
  subst c
  obtain ⟨a, vs, rfl, h1, h2, h3⟩ := rv
  have nw := o.fresh h1
  have wid : ∀ b, (W b \/ b = a) -> ¬ W b -> H b = none := fun b hb nb => (hb.resolve_left nb) ▸ h1
  have r1 : Rs p (fun b => W b \/ b = a) K H1 L σ τ := (r.wide (fun _ h => .inl h) wid).ev e fun q hq => .inl (o.pw q hq)
  have al : a ∉ L := fun z => by obtain ⟨_, y⟩ := r.own_in a z; rw [h1] at y; cases y
  obtain ⟨L', l, r2⟩ := r1.setO (.inr rfl) (o.np h1) al h2 (h3.free nl) i
  refine q1 _ L' _ H1 _ (e0 ▸ m) (e.ofP o) ⟨fun q hq => ⟨(o1.pu q hq).1, .inl (o1.pw q hq)⟩, fun b hb => ?_⟩ o1.al (fun b hb => hb.imp id fun (z : b = a) => by rw [z]; exact h1) (fun b hb => ?_) r2
  . rcases hb with hb | rfl
    . exact o1.al b hb
    . exact ⟨_, h2⟩
  . rcases l b hb with rfl | hb
    . exact .inr h1
    . exact .inl hb
end
end D
end
section
namespace L2
open PySem PySem.Spec PyProof.Rows
theorem op_inDC {X : Cx} {own : List Str} {scope : Scope} {C : Addr} {fp : List Addr} {s : Shared} {H : Hp} (hu : (cxComp X own scope C fp s H).A.units + 64 < cLine) : OpR (cxComp X own scope C fp s H) (compareOp .In) (rInD X.K false) := op_inD hu
end L2
namespace D
open PySem L2 K0 Num
open PySem.W (Dat)
theorem E1.boolI {p : Option Addr} {K : PySem.W.Frag} {τ : List Sl} {te : TE} {b : Bool} (h : E1 p K te τ (.dat (.bool b))) : E1 p K (tCB (fun xs H Q => (∃ i, xs = [.int i] /\ Q (.int i) H) \/ ∃ k, xs = [.bl k] /\ Q (.int (if k then 1 else 0)) H) (tCons te tNil)) τ (.dat (.int (if b then 1 else 0))) := fun W L σ H Q rs o q =>
  h W L σ H _ rs o fun v H1 s e e1 o1 rv => by
    subst e
    cases rv.bl_inv
    exact .inr ⟨b, rfl, q _ H1 _ rfl e1 o1 (.int _)⟩
end D
end
namespace D
open PySem L2 K0 Num
open PySem.W (Dat)
noncomputable def n4 (a b c e : Int) : Int := a * a + b * b + c * c + e * e
section
noncomputable def spQ (K : PySem.W.Frag) (R : List Dat -> (Dat -> Prop) -> Prop) : Sp := fun vs H Q _ => ∃ ds C, Dzs (fun _ => True) K H vs ds /\ R ds C /\ ∀ v H' d, C d -> Same H H' -> Dz (fun a => H a = none) K H' v d -> Q v H'
section
variable {p : Option Addr} {K : PySem.W.Frag} {W : Addr -> Prop} {L : List Addr} {σ : St} {H H1 : Hp} {τ τ' : List Sl} {tas : TA} {v : V} {s : Sl} {t : TS} {ds : List Dat} {E' : XK}
theorem E.callQ {R : List Dat -> (Dat -> Prop) -> Prop} {ss : List Sl} {ds : List Dat} {C : Dat -> Prop} (ha : A1 p K tas τ ss) (hr : R ds C) (hd : datsOf ss = some ds := by rfl) : E p K (tCall (spQ K R) [] E' tas) τ (fun s => ∃ d, s = .dat d /\ C d) := fun W L σ H Q rs o q => ha W L σ H _ rs o fun vs H1 ss e e1 o1 rv => by
  subst e
  rw [List.append_nil]
  exact ⟨ds, C, rv.dz hd, hr, fun v H' d c s z => q v H' _ ⟨d, rfl, c⟩ (e1.trans (Ev.of s)) (o1.same s) (z.mono fun a ha => o1.fresh ha)⟩
variable {P : Program} {w : World} {mg : Str -> Option Value} {base : Heap}
theorem okQ {x qual : Str} {st : Stmt} {f : Addr} {fd : FuncData} {N ps : List Str} {k : Nat} {R : List Dat -> (Dat -> Prop) -> Prop} (F : Fun K x qual st f fd) (S0 : FnScope N ps (defScope st)) (len : ∀ ds C, R ds C -> ds.length = ps.length)
    (body : ∀ (cdv : Value) (A : Around) (outer : List Env) (s : Shared) (H : Hp) (E : XK), Room k (A.deeper (PyProof.Rows.envOfC qual (defScope st) s.heap.objs.size f cdv)) ->
      ∃ t, ZSs (cxOf CX0 P w K mg base N qual (defScope st) f cdv A outer s H E).nox (defBody st) t /\ ∀ ds C, R ds C -> S none K t (ds.map .dat ++ List.replicate (N.length - ps.length) .un) (fun _ => False) (fun s => ∃ d, C d /\ Gives d s)) : FnOk P w K mg base CX0 (k + 1) f fd ps (spQ K R) := by
  refine F.okZ S0 (fun vs H Q E h => ?_) (fun cdv A outer s H vs Q E hr h => ?_)
  . obtain ⟨ds, C, z, r, _⟩ := h; rw [z.len]; exact len ds C r
  . obtain ⟨ds, C, z, r, q⟩ := h
    obtain ⟨t, hz, hs⟩ := body cdv A outer s H E hr
    refine ⟨t, hz, ?_⟩
    have l : vs.length = ps.length := by rw [z.len]; exact len ds C r
    have r0 : Rs none (fun _ => False) K H [] (L2.start N vs) (ds.map .dat ++ List.replicate (N.length - ps.length) .un) := by
      unfold L2.start
      rw [l]
      exact rs_start _ z fun a _ h => h
    have same : ∀ {H' : Hp}, Ev (fun _ => False) H H' -> Same H H' := fun e b o h => e.keep b o (fun z => z) h
    refine hs ds C r (fun _ => False) [] _ H _ r0 ⟨fun q h => (by cases h), fun a h => False.elim h⟩ (fun W' L' σ' H' τ' e ev o' al n l r' => e.elim) (fun W' H' v s e ev o' al n rv => ?_)
    obtain ⟨d, c, e⟩ := e
    cases s with
    | dat d' =>
      obtain ⟨rfl, nl⟩ := e
      exact q v H' _ c (same ev) (Dz.free rv nl)
    | own es =>
      obtain ⟨rfl, nl⟩ := e
      obtain ⟨a, vs, rfl, h1, h2, h3⟩ := rv
      have h0 : H a = none := h1.resolve_left (fun z => by cases z)
      exact q _ H' _ c (same ev) (.lst (.inl ⟨h0, .inl h2⟩) (Dzs.free h3 nl))
    | _ => exact e.elim
end
noncomputable def In (a b c d e f x y z : Int) : Prop := ∃ m1 m2 m3 : Int, x = m1 * a + m2 * b + m3 * d /\ y = m2 * c + m3 * e /\ z = m3 * f
structure Hnf (a b c d e f : Int) : Prop where
  a0 : 0 < a
  c0 : 0 < c
  f0 : 0 < f
  b0 : 0 <= b
  b1 : b < a
  d0 : 0 <= d
  d1 : d < a
  e0 : 0 <= e
  e1 : e < c
end
end D
section
namespace L2
open PySem PySem.Spec PyProof.Rows
end L2
namespace D
open PySem L2 K0 Num
open PySem.W (Dat)
noncomputable def units : List (List Int) := [[1, 0, 0], [0, 1, 0], [0, 0, 1]]
noncomputable def Kpt (F : List Int) (x y z : Int) : Prop := ∀ a b c e : Int, pl F = [a, b, c, e] -> (sop (pl F) (pl F) ∣ sop (rw1 a b c e) [x, y, z]) /\ (sop (pl F) (pl F) ∣ sop (rw2 a b c e) [x, y, z]) /\ (sop (pl F) (pl F) ∣ sop (rw3 a b c e) [x, y, z])
noncomputable def KptA (fs : List (List Int)) (x y z : Int) : Prop := ∀ F ∈ fs, Kpt F x y z
noncomputable def Rows (fs : List (List Int)) (a b c d e f : Int) : Prop := Hnf a b c d e f /\ ∀ x y z, In a b c d e f x y z ↔ KptA fs x y z
end D
end
namespace D
open PySem L2 K0 Num
open PySem.W (Dat)
noncomputable def Row3.neg (r : Row3) : Row3 := ⟨-r.x, -r.y, -r.z⟩
section
noncomputable def Row3.sum (r s : Row3) (p q : Rat) : Row3 := ⟨r.x * p + s.x * q, r.y * p + s.y * q, r.z * p + s.z * q⟩
section
variable {r s : Row3}
end
end
end D
section
namespace L2
open PySem PySem.Spec PyProof.Rows
end L2
namespace D
open PySem L2 K0 Num
open PySem.W (Dat)
noncomputable def flatD : Sl -> Bool
  | .un => true
  | .dat _ => true
  | _ => false
noncomputable def flatDs : List Sl -> Bool
  | [] => true
  | s :: r => flatD s && flatDs r
noncomputable def GivesX (d : Dat) : Sl -> Prop
  | .dat e => d = e
  | .own ds => d = .list ds
  | _ => False
theorem Rs.reset {p : Option Addr} {W W' : Addr -> Prop} {K : PySem.W.Frag} {H : Hp} {L : List Addr} {σ : St} {τ : List Sl} (r : Rs p W K H L σ τ) (m : ∀ a, W' a -> W a) : flatDs τ = true -> Rs none W' K H [] σ τ := by
  induction r with
  | nil => intro _; exact .nil
  | un _ ih => intro h; rw [flatDs, flatD, Bool.true_and] at h; exact .un (ih h)
  | dat z _ ih => intro h; rw [flatDs, flatD, Bool.true_and] at h; exact .dat (z.mono fun a n y => n (m a y)) (ih h)
  | pu _ _ _ => intro h; rw [flatDs] at h; exact absurd (Bool.and_eq_true_iff.mp h).1 (by decide)
  | own _ _ _ _ _ _ _ => intro h; rw [flatDs] at h; exact absurd (Bool.and_eq_true_iff.mp h).1 Bool.false_ne_true
  | dt _ _ _ _ _ _ => intro h; rw [flatDs] at h; exact absurd (Bool.and_eq_true_iff.mp h).1 Bool.false_ne_true
section
variable {p : Option Addr} {K : PySem.W.Frag} {W : Addr -> Prop} {L : List Addr} {σ : St} {H : Hp} {τ : List Sl} {s : Sl} {ds : List Dat}
end
end D
end
namespace D
open PySem L2 K0 Num
open PySem.W (Dat)
section
noncomputable def Row3.sub (r s : Row3) : Row3 := ⟨r.x - s.x, r.y - s.y, r.z - s.z⟩
noncomputable def Row3.add (r s : Row3) : Row3 := ⟨r.x + s.x, r.y + s.y, r.z + s.z⟩
noncomputable def Row3.sm (k : Rat) (r : Row3) : Row3 := ⟨k * r.x, k * r.y, k * r.z⟩
noncomputable def nq (w : Rat) (v : Row3) : Rat := N4 w v.x v.y v.z
section
variable {w : Rat} {v r s : Row3} {k : Rat}
end
noncomputable def r0 : Row3 := ⟨0, 0, 0⟩
section
variable {w : Rat} {v r s : Row3} {k : Rat}
end
end
end D
section
namespace L2
open PySem PySem.Spec PyProof.Rows
end L2
namespace D
open PySem L2 K0 Num
open PySem.W (Dat)
noncomputable def spX (K : PySem.W.Frag) (R : List Dat -> (Dat -> Prop) -> Prop) : Sp := fun vs H Q _ => ∃ ds C, Dzs (fun _ => True) K H vs ds /\ R ds C /\ ∀ v H' d, C d -> Same H H' -> Dz (fun _ => True) K H' v d -> Q v H'
section
variable {K : PySem.W.Frag} {W : Addr -> Prop} {L : List Addr} {σ : St} {H H1 H2 : Hp} {τ τ' : List Sl} {tas : TA} {v : V} {s : Sl} {nx : List Sl -> Prop} {rt : Sl -> Prop} {t u : TS} {ds : List Dat} {E' : XK}
theorem S.letX {R : List Dat -> (Dat -> Prop) -> Prop} {C : Dat -> Prop} {ss : List Sl} {i : Nat} (hf : flatDs τ = true) (ha : A1 none K tas τ ss) (hr : R ds C) (m : ∀ d, C d -> S none K u (τ.set i (.dat d)) nx rt) (hd : datsOf ss = some ds := by rfl) : S none K (tSeq (tAsg (tCall (spX K R) [] E' tas) (gName i)) u) τ nx rt := fun W L σ H D r o q1 q2 => by
  have r' : Rs none (fun _ => False) K H [] σ τ := r.reset (fun a z => z.elim) hf
  have o' : Ok none (fun _ => False) H := ⟨fun a ha => (by cases ha), fun a ha => ha.elim⟩
  refine ha _ [] σ H _ r' o' fun vs H1 ss' es e1 o1 rv => ?_
  subst es
  show spX K R (vs ++ []) H1 _ E'
  rw [List.append_nil]
  refine ⟨ds, C, rv.dz hd, hr, fun v H' d c sm z => ?_⟩
  have e2 : Ev (Pp none) H H' := e1.trans (Ev.of sm)
  have same : ∀ b o, H b = some o -> H' b = some o := fun b o h => e2.keep b o (fun z => by cases z) h
  have r2 : Rs none (fun _ => False) K H' [] σ τ := r'.ev e2 fun q hq => by cases hq
  obtain ⟨L', l, r3⟩ := r2.set (v := v) (s := .dat d) (.inr (.inl ⟨d, rfl, z.mono fun _ _ h => h⟩)) i
  have al : ∀ a, W a -> ∃ ys, H' a = some ys := fun a ha => by obtain ⟨ys, h⟩ := o.al a ha; exact ⟨ys, same _ _ h⟩
  have hn : ∀ a, H' a = none -> H a = none := fun a ha => by
    cases h : H a with
    | none => rfl
    | some x => rw [same _ _ h] at ha; cases ha
  refine m d c (fun _ => False) L' _ H' D r3 ⟨fun a ha => (by cases ha), fun a ha => ha.elim⟩ (fun W2 L2 σ2 H2 τ2 c2 ev o2 al2 n2 l2 rs2 => ?_) (fun W2 H2 v2 s2 c2 ev o2 al2 n2 rv2 => ?_)
  . exact q1 W2 L2 σ2 H2 τ2 c2 ((Ev.mono e2 fun a z => by cases z).trans (ev.mono fun a z => z.elim)) o2 (fun a ha => by obtain ⟨ys, h⟩ := al a ha; exact ⟨ys, ev.keep _ _ (fun z => z) h⟩) (fun a ha => (n2 a ha).elim (fun z => z.elim) fun z => .inr (hn a z)) (fun a ha => (l2 a ha).elim (fun z => by have := l a z; cases this) fun z => .inr (hn a z)) rs2
  . exact q2 W2 H2 v2 s2 c2 ((Ev.mono e2 fun a z => by cases z).trans (ev.mono fun a z => z.elim)) o2 (fun a ha => by obtain ⟨ys, h⟩ := al a ha; exact ⟨ys, ev.keep _ _ (fun z => z) h⟩) (fun a ha => (n2 a ha).elim (fun z => z.elim) fun z => .inr (hn a z)) (rv2.base hn fun a ha => by have := l a ha; cases this)
variable {P : Program} {w : World} {mg : Str -> Option Value} {base : Heap}
theorem okX {x qual : Str} {st : Stmt} {f : Addr} {fd : FuncData} {N ps : List Str} {k : Nat} {R : List Dat -> (Dat -> Prop) -> Prop} (F : Fun K x qual st f fd) (S0 : FnScope N ps (defScope st)) (len : ∀ ds C, R ds C -> ds.length = ps.length)
    (body : ∀ (cdv : Value) (A : Around) (outer : List Env) (s : Shared) (H : Hp) (E : XK), Room k (A.deeper (PyProof.Rows.envOfC qual (defScope st) s.heap.objs.size f cdv)) ->
      ∃ t, ZSs (cxOf CX0 P w K mg base N qual (defScope st) f cdv A outer s H E).nox (defBody st) t /\ ∀ ds C, R ds C -> S none K t (ds.map .dat ++ List.replicate (N.length - ps.length) .un) (fun _ => False) (fun s => ∃ d, C d /\ GivesX d s)) : FnOk P w K mg base CX0 (k + 1) f fd ps (spX K R) := by
  refine F.okZ S0 (fun vs H Q E h => ?_) (fun cdv A outer s H vs Q E hr h => ?_)
  . obtain ⟨ds, C, z, r, _⟩ := h; rw [z.len]; exact len ds C r
  . obtain ⟨ds, C, z, r, q⟩ := h
    obtain ⟨t, hz, hs⟩ := body cdv A outer s H E hr
    refine ⟨t, hz, ?_⟩
    have l : vs.length = ps.length := by rw [z.len]; exact len ds C r
    have r0 : Rs none (fun _ => False) K H [] (L2.start N vs) (ds.map .dat ++ List.replicate (N.length - ps.length) .un) := by
      unfold L2.start
      rw [l]
      exact rs_start _ z fun a _ h => h
    have same : ∀ {H' : Hp}, Ev (fun _ => False) H H' -> Same H H' := fun e b o h => e.keep b o (fun z => z) h
    refine hs ds C r (fun _ => False) [] _ H _ r0 ⟨fun q h => (by cases h), fun a h => False.elim h⟩ (fun W' L' σ' H' τ' e ev o' al n l r' => e.elim) (fun W' H' v s e ev o' al n rv => ?_)
    obtain ⟨d, c, e⟩ := e
    cases s with
    | dat d' =>
      obtain rfl : d = d' := e
      exact q v H' _ c (same ev) (Dz.mono (fun _ _ => trivial) rv)
    | own es =>
      obtain rfl : d = .list es := e
      obtain ⟨a, vs, rfl, h1, h2, h3⟩ := rv
      exact q _ H' _ c (same ev) (.lst (.inl ⟨trivial, .inl h2⟩) (h3.mono fun _ _ => trivial))
    | dt es => cases e
    | un => cases e
    | pu => cases e
    | vw ds => cases e
end
end D
end
namespace D
open PySem L2 K0 Num
open PySem.W (Dat)
noncomputable def TnQ (w x y z : Int) (r s : Row3) : Prop := Q1 w x y z r.x r.y r.z = s.x /\ Q2 w x y z r.x r.y r.z = s.y /\ Q3 w x y z r.x r.y r.z = s.z
noncomputable def d2 (a b : Row3) : Rat := (b.sub a).dot (b.sub a)
structure Only (p0 p1 p2 o0 o1 o2 : Row3) (w x y z : Int) (u v t : Rat) : Prop where
  nz : ∃ n ∈ [w, x, y, z], n ≠ 0
  p : pl [w, x, y, z] = [w, x, y, z]
  b : Bd (2 ^ 1000) [w, x, y, z]
  h1 : TnQ w x y z (p1.sub p0) (o1.sub o0)
  h2 : TnQ w x y z (p2.sub p0) (o2.sub o0)
  su : u = o0.x + -Q1 w x y z p0.x p0.y p0.z
  sv : v = o0.y + -Q2 w x y z p0.x p0.y p0.z
  st : t = o0.z + -Q3 w x y z p0.x p0.y p0.z
section
section
variable {p : Option Addr} {K : PySem.W.Frag} {W : Addr -> Prop} {L : List Addr} {σ : St} {H H1 : Hp} {τ τ' : List Sl} {te e1 : TE} {v : V} {s : Sl} {nx : List Sl -> Prop} {rt : Sl -> Prop} {u : TS} {ds : List Dat}
theorem S.appendX {i : Nat} {ds : List Dat} {d : Dat} {τ' : List Sl} (h : τ[i]? = some (.own ds)) (he : E1 p K te τ (.dat d)) (hz : ds.length < sizeLine) (m : nx τ') (e : τ.set i (.own (ds ++ [d])) = τ' := by rfl) : S p K (tDrop (tBM K "list" rAppend (tVar i) (tCons te tNil))) τ nx rt := fun W L σ H D r o q1 q2 => by
  subst e
  obtain ⟨a, vs, e, w, n, l, h1, z⟩ := r.get_own h
  refine ⟨_, e, .inl ⟨rfl, _, SqL.of h1⟩, he W L σ H _ r o fun v H1 s c e1 o1 rv => ?_⟩
  subst c
  have r1 := r.ev e1 o.pw
  obtain ⟨a', vs', e', w', n', l', h1', z'⟩ := r1.get_own h
  rw [e] at e'; cases e'
  have ev : Ev (fun b => b = a) H1 (upd H1 a (.lst (vs' ++ [v]))) := ⟨fun b o n h => by rw [upd_ne n]; exact h, Tm.lst h1' _⟩
  have nw : ∀ b, ¬ W b -> ¬ b = a := fun b n z => n (z ▸ w)
  have alw : ∀ b, W b -> ∃ ys, upd H1 a (.lst (vs' ++ [v])) b = some ys := fun b hb => by
    by_cases z : b = a
    . subst z; exact ⟨_, upd_same⟩
    . rw [upd_ne z]; exact o1.al b hb
  refine ⟨a, vs', v, rfl, rfl, h1', by rw [z'.len]; exact hz, ?_⟩
  refine q1 W L σ _ _ m ((e1.ofP o).trans (ev.mono fun b hb => hb ▸ w)) ⟨fun q hq => ⟨?_, o1.pw q hq⟩, alw⟩ alw (fun _ h => .inl h) (fun _ h => .inl h) (Rs.chgO w h1' ((z'.app (.cons rv .nil)).ev ev nw) r1 h e)
  obtain ⟨x, y, u⟩ := (o1.pu q hq).1
  exact ⟨x, y, by rw [upd_ne (fun z => n' (by rw [<- z]; exact hq))]; exact u⟩
end
end
section
section
variable {p : Option Addr} {K : PySem.W.Frag} {W W' : Addr -> Prop} {L : List Addr} {σ : St} {H H' : Hp} {τ τ' : List Sl} {u : TS} {te : TE} {nx : List Sl -> Prop} {rt : Sl -> Prop} {o : Own}
theorem Rs.setT (r : Rs p W K H L σ τ) {a : Addr} {l : List Addr} (wa : ∀ b, b ∈ l -> W b) (np : ∀ b, b ∈ l -> p ≠ some b) (nl : ∀ b, b ∈ l -> b ∉ L) (z : o.R (fun a => ¬ W a) K H a l) : ∀ (i : Nat), ∃ L', (∀ b, b ∈ L' -> b ∈ l \/ b ∈ L) /\ Rs p W K H L' (σ.set i (some (.ref a))) (τ.set i (.dt o)) := by
  induction r with
  | nil => intro i; exact ⟨[], fun _ h => .inr h, .nil⟩
  | un r ih =>
    intro i
    match i with
    | 0 => exact ⟨_, fun b hb => List.mem_append.mp hb, .dt wa np nl z r⟩
    | i + 1 => obtain ⟨L', h1, h2⟩ := ih nl i; exact ⟨L', h1, .un h2⟩
  | dat y r ih =>
    intro i
    match i with
    | 0 => exact ⟨_, fun b hb => List.mem_append.mp hb, .dt wa np nl z r⟩
    | i + 1 => obtain ⟨L', h1, h2⟩ := ih nl i; exact ⟨L', h1, .dat y h2⟩
  | pu y r ih =>
    intro i
    match i with
    | 0 => exact ⟨_, fun b hb => List.mem_append.mp hb, .dt wa np nl z r⟩
    | i + 1 => obtain ⟨L', h1, h2⟩ := ih nl i; exact ⟨L', h1, .pu y h2⟩
  | own g1 g2 g3 g4 g5 r ih =>
    intro i
    have nl' := fun b hb y => nl b hb (List.mem_cons_of_mem _ y)
    match i with
    | 0 => exact ⟨_, fun b hb => (List.mem_append.mp hb).imp id (List.mem_cons_of_mem _), .dt wa np nl' z r⟩
    | i + 1 =>
      obtain ⟨L', h1, h2⟩ := ih nl' i
      refine ⟨_ :: L', fun b hb => ?_, .own g1 g2 (fun y => ?_) g4 g5 h2⟩
      . rcases List.mem_cons.mp hb with rfl | hb
        . exact .inr List.mem_cons_self
        . exact (h1 b hb).imp id (List.mem_cons_of_mem _)
      . rcases h1 _ y with y | y
        . exact nl _ y List.mem_cons_self
        . exact g3 y
  | dt g1 g2 g3 g4 r ih =>
    intro i
    have nl' := fun b hb y => nl b hb (List.mem_append_right _ y)
    match i with
    | 0 => exact ⟨_, fun b hb => (List.mem_append.mp hb).imp id (List.mem_append_right _), .dt wa np nl' z r⟩
    | i + 1 =>
      obtain ⟨L', h1, h2⟩ := ih nl' i
      refine ⟨_ ++ L', fun b hb => ?_, .dt g1 g2 (fun b hb y => ?_) g4 h2⟩
      . rcases List.mem_append.mp hb with hb | hb
        . exact .inr (List.mem_append_left _ hb)
        . exact (h1 b hb).imp id (List.mem_append_right _)
      . rcases h1 _ y with y | y
        . exact nl _ y (List.mem_append_left _ hb)
        . exact g3 b hb y
theorem Rs.get_t (r : Rs p W K H L σ τ) : ∀ {i : Nat} {o : Own}, τ[i]? = some (.dt o) -> ∃ a l, σ[i]? = some (some (.ref a)) /\ (∀ b, b ∈ l -> W b) /\ (∀ b, b ∈ l -> p ≠ some b) /\ (∀ b, b ∈ l -> b ∈ L) /\ o.R (fun a => ¬ W a) K H a l := by
  induction r with
  | nil => intro i ds h; simp at h
  | un _ ih =>
    intro i ds h
    match i, h with
    | 0, h => simp at h
    | i + 1, h => exact ih (i := i) (by simpa using h)
  | dat z _ ih =>
    intro i ds h
    match i, h with
    | 0, h => simp at h
    | i + 1, h => exact ih (i := i) (by simpa using h)
  | pu z _ ih =>
    intro i ds h
    match i, h with
    | 0, h => simp at h
    | i + 1, h => exact ih (i := i) (by simpa using h)
  | own h1 h2 h3 h4 h5 _ ih =>
    intro i ds h
    match i, h with
    | 0, h => simp at h
    | i + 1, h =>
      obtain ⟨a, l, e1, e2, e3, e4, e5⟩ := ih (i := i) (by simpa using h)
      exact ⟨a, l, by simpa using e1, e2, e3, fun b hb => List.mem_cons_of_mem _ (e4 b hb), e5⟩
  | dt h1 h2 h3 h4 _ ih =>
    intro i ds h
    match i, h with
    | 0, h => simp at h; subst h; exact ⟨_, _, rfl, h1, h2, fun b hb => List.mem_append_left _ hb, h4⟩
    | i + 1, h =>
      obtain ⟨a, l, e1, e2, e3, e4, e5⟩ := ih (i := i) (by simpa using h)
      exact ⟨a, l, by simpa using e1, e2, e3, fun b hb => List.mem_append_right _ (e4 b hb), e5⟩
theorem Own.away {X : Addr -> Prop} {a : Addr} {l : List Addr} (z : o.R (fun a => ¬ W a) K H a l) (ev : Ev X H H') (xw : ∀ b, X b -> W b) (mw : ∀ b, W b -> W' b) (n : ∀ b, W' b -> W b \/ H b = none) (nl : ∀ b, b ∈ l -> ¬ X b) : o.R (fun a => ¬ W' a) K H' a l := by
  have z1 : o.R (fun a => ¬ W' a) K H a l := o.wide z fun b u nb hb wb => by
    rcases n b wb with y | y
    . exact nb y
    . rw [y] at hb; cases hb
  exact o.ev z1 ev (fun b nb xb => nb (mw b (xw b xb))) fun b u hb h => ev.keep _ _ (nl b hb) h
theorem Rs.away {X : Addr -> Prop} (r : Rs p W K H L σ τ) (ev : Ev X H H') (xw : ∀ b, X b -> W b) (mw : ∀ b, W b -> W' b) (n : ∀ b, W' b -> W b \/ H b = none) : (∀ b, b ∈ L -> ¬ X b) -> Rs p W' K H' L σ τ := by
  have ew : Ev W H H' := ev.mono xw
  induction r with
  | nil => intro _; exact .nil
  | un _ ih => intro l; exact .un (ih l)
  | dat h _ ih => intro l; exact .dat (dz_old ew n h) (ih l)
  | pu h _ ih => intro l; exact .pu h (ih l)
  | own h1 h2 h3 h4 h5 _ ih =>
    intro l
    exact .own (mw _ h1) h2 h3 (ev.keep _ _ (l _ List.mem_cons_self) h4) (Dzs.old ew n h5) (ih fun a z => l a (List.mem_cons_of_mem _ z))
  | dt h1 h2 h3 h4 _ ih =>
    intro l
    exact .dt (fun b hb => mw _ (h1 b hb)) h2 h3 (Own.away h4 ev xw mw n fun b hb => l b (List.mem_append_left _ hb)) (ih fun a z => l a (List.mem_append_right _ z))
theorem Rs.chgX (r : Rs p W K H L σ τ) : ∀ {i : Nat} {o : Own}, τ[i]? = some (.dt o) -> ∃ a l, σ[i]? = some (some (.ref a)) /\ (∀ b, b ∈ l -> W b) /\ (∀ b, b ∈ l -> p ≠ some b) /\ (∀ b, b ∈ l -> b ∈ L) /\ o.R (fun a => ¬ W a) K H a l /\
    ∀ (W' : Addr -> Prop) (H' : Hp) (l' : List Addr) (o' : Own), (∀ b, W b -> W' b) -> (∀ b, W' b -> W b \/ H b = none) -> Ev (fun b => b ∈ l) H H' -> (∀ b, b ∈ l' -> W' b) -> (∀ b, b ∈ l' -> p ≠ some b) -> (∀ b, b ∈ l' -> b ∈ l \/ b ∉ L) -> o'.R (fun a => ¬ W' a) K H' a l' ->
      ∃ L', (∀ b, b ∈ L' -> b ∈ L \/ b ∈ l') /\ (∀ b, b ∈ l' -> b ∈ L') /\ Rs p W' K H' L' σ (τ.set i (.dt o')) := by
  induction r with
  | nil => intro i ds h; simp at h
  | un _ ih =>
    intro i ds h
    match i, h with
    | 0, h => simp at h
    | i + 1, h =>
      obtain ⟨a, l, e1, e2, e3, e4, e5, e6⟩ := ih (i := i) (by simpa using h)
      refine ⟨a, l, by simpa using e1, e2, e3, e4, e5, fun W' H' l' o' g1 g2 g3 g4 g5 g6 g7 => ?_⟩
      obtain ⟨L', k1, k2, k3⟩ := e6 W' H' l' o' g1 g2 g3 g4 g5 g6 g7
      exact ⟨L', k1, k2, .un k3⟩
  | dat z _ ih =>
    intro i ds h
    match i, h with
    | 0, h => simp at h
    | i + 1, h =>
      obtain ⟨a, l, e1, e2, e3, e4, e5, e6⟩ := ih (i := i) (by simpa using h)
      refine ⟨a, l, by simpa using e1, e2, e3, e4, e5, fun W' H' l' o' g1 g2 g3 g4 g5 g6 g7 => ?_⟩
      obtain ⟨L', k1, k2, k3⟩ := e6 W' H' l' o' g1 g2 g3 g4 g5 g6 g7
      exact ⟨L', k1, k2, .dat (dz_old (g3.mono e2) g2 z) k3⟩
  | pu z _ ih =>
    intro i ds h
    match i, h with
    | 0, h => simp at h
    | i + 1, h =>
      obtain ⟨a, l, e1, e2, e3, e4, e5, e6⟩ := ih (i := i) (by simpa using h)
      refine ⟨a, l, by simpa using e1, e2, e3, e4, e5, fun W' H' l' o' g1 g2 g3 g4 g5 g6 g7 => ?_⟩
      obtain ⟨L', k1, k2, k3⟩ := e6 W' H' l' o' g1 g2 g3 g4 g5 g6 g7
      exact ⟨L', k1, k2, .pu z k3⟩
  | @own L0 σ0 τ0 a0 vs0 ds0 h1 h2 h3 h4 h5 _ ih =>
    intro i ds h
    match i, h with
    | 0, h => simp at h
    | i + 1, h =>
      obtain ⟨a, l, e1, e2, e3, e4, e5, e6⟩ := ih (i := i) (by simpa using h)
      refine ⟨a, l, by simpa using e1, e2, e3, fun b hb => List.mem_cons_of_mem _ (e4 b hb), e5, fun W' H' l' o' g1 g2 g3 g4 g5 g6 g7 => ?_⟩
      obtain ⟨L', k1, k2, k3⟩ := e6 W' H' l' o' g1 g2 g3 g4 g5 (fun b hb => (g6 b hb).imp id fun n z => n (List.mem_cons_of_mem _ z)) g7
      refine ⟨a0 :: L', fun b hb => ?_, fun b hb => List.mem_cons_of_mem _ (k2 b hb), .own (g1 _ h1) h2 (fun z => ?_) (g3.keep _ _ (fun z => h3 (e4 _ z)) h4) (Dzs.old (g3.mono e2) g2 h5) k3⟩
      . rcases List.mem_cons.mp hb with rfl | hb
        . exact .inl List.mem_cons_self
        . exact (k1 b hb).imp (List.mem_cons_of_mem _) id
      . rcases k1 _ z with y | y
        . exact h3 y
        . rcases g6 _ y with y | y
          . exact h3 (e4 _ y)
          . exact y List.mem_cons_self
  | @dt L0 l0 σ0 τ0 a0 o0 h1 h2 h3 h4 r ih =>
    intro i ds h
    match i, h with
    | 0, h =>
      simp at h; subst h
      refine ⟨_, _, rfl, h1, h2, fun b hb => List.mem_append_left _ hb, h4, fun W' H' l' o' g1 g2 g3 g4 g5 g6 g7 => ⟨l' ++ L0, fun b hb => ?_, fun b hb => List.mem_append_left _ hb, .dt g4 g5 (fun b hb y => ?_) g7 (r.away g3 h1 g1 g2 fun b hb y => h3 b y hb)⟩⟩
      . rcases List.mem_append.mp hb with hb | hb
        . exact .inr hb
        . exact .inl (List.mem_append_right _ hb)
      . rcases g6 b hb with z | z
        . exact h3 b z y
        . exact z (List.mem_append_right _ y)
    | i + 1, h =>
      obtain ⟨a, l, e1, e2, e3, e4, e5, e6⟩ := ih (i := i) (by simpa using h)
      refine ⟨a, l, by simpa using e1, e2, e3, fun b hb => List.mem_append_right _ (e4 b hb), e5, fun W' H' l' o' g1 g2 g3 g4 g5 g6 g7 => ?_⟩
      obtain ⟨L', k1, k2, k3⟩ := e6 W' H' l' o' g1 g2 g3 g4 g5 (fun b hb => (g6 b hb).imp id fun n z => n (List.mem_append_right _ z)) g7
      refine ⟨l0 ++ L', fun b hb => ?_, fun b hb => List.mem_append_right _ (k2 b hb), .dt (fun b hb => g1 _ (h1 b hb)) h2 (fun b hb z => ?_) (Own.away h4 g3 e2 g1 g2 fun b hb y => h3 b hb (e4 b y)) k3⟩
      . rcases List.mem_append.mp hb with hb | hb
        . exact .inl (List.mem_append_left _ hb)
        . exact (k1 b hb).imp (List.mem_append_right _) id
      . rcases k1 _ z with y | y
        . exact h3 b hb y
        . rcases g6 _ y with y | y
          . exact h3 b hb (e4 _ y)
          . exact y (List.mem_append_left _ hb)
noncomputable def Own.Self (o : Own) : Prop := ∀ (N : Addr -> Prop) (K : PySem.W.Frag) (H : Hp) (a : Addr) (l : List Addr), o.R N K H a l -> o.R (fun b => N b /\ b ∉ l) K H a l
theorem Rs.finN {H1 : Hp} (r : Rs p W K H L σ τ) (ok : Ok p W H) (e : Ev (Pp p) H H1) (ok1 : Ok p W H1) {i : Nat} {o : Own} (nb : List Addr) (hnb : ∀ b, b ∈ nb -> H b = none) (h : τ[i]? = some (.dt o)) :
    ∃ a l, σ[i]? = some (some (.ref a)) /\ (∀ b, b ∈ l -> W b \/ b ∈ nb) /\ (∀ b, b ∈ l -> p ≠ some b) /\ (∀ b, b ∈ l -> b ∉ nb) /\ o.R (fun a => ¬ (W a \/ a ∈ nb)) K H1 a l /\ ∀ (W' : Addr -> Prop) (H' : Hp) (l' : List Addr) (o' : Own), (∀ b, W' b ↔ W b \/ b ∈ l') -> (∀ b, b ∈ nb -> b ∈ l') -> (∀ b, b ∈ l' -> b ∈ l \/ b ∈ nb \/ H1 b = none) -> Ev (fun b => b ∈ l) H1 H' -> (∀ b, b ∈ l -> ∃ u, H' b = some u) -> o'.R (fun a => ¬ W' a) K H' a l' ->
      Ev W H H' /\ Ok p W' H' /\ (∀ a, W a -> ∃ ys, H' a = some ys) /\ (∀ a, W' a -> W a \/ H a = none) /\ ∃ L', (∀ a, a ∈ L' -> a ∈ L \/ H a = none) /\ (∀ a, a ∈ l' -> a ∈ L') /\ Rs p W' K H' L' σ (τ.set i (.dt o')) := by
  have r1 : Rs p (fun b => W b \/ b ∈ nb) K H1 L σ τ := (r.wide (W' := fun b => W b \/ b ∈ nb) (fun _ h => .inl h) fun b hb n => hnb b (hb.resolve_left n)).ev e fun q hq => .inl (ok.pw q hq)
  obtain ⟨a, l, e1, e2, e3, e4, e5, e6⟩ := r1.chgX h
  have ln : ∀ b, b ∈ l -> b ∉ nb := fun b hb z => by
    obtain ⟨u, hu⟩ := r.own_in b (e4 b hb); rw [hnb b z] at hu; cases hu
  refine ⟨a, l, e1, e2, e3, ln, e5, fun W' H' l' o' hw hn hf ev hal hr => ?_⟩
  have lw : ∀ b, b ∈ l -> W b := fun b hb => (e2 b hb).resolve_right (ln b hb)
  have np : ∀ b, b ∈ l' -> p ≠ some b := fun b hb => by
    rcases hf b hb with z | z | z
    . exact e3 b z
    . exact ok.np (hnb b z)
    . exact ok1.np z
  have mw : ∀ b, W b \/ b ∈ nb -> W' b := fun b hb => (hw b).mpr (hb.imp id (hn b))
  have nw : ∀ b, W' b -> (W b \/ b ∈ nb) \/ H1 b = none := fun b hb => by
    rcases (hw b).mp hb with z | z
    . exact .inl (.inl z)
    . rcases hf b z with y | y | y
      . exact .inl (e2 b y)
      . exact .inl (.inr y)
      . exact .inr y
  have nl : ∀ b, b ∈ l' -> b ∈ l \/ b ∉ L := fun b hb => by
    rcases hf b hb with z | z | z
    . exact .inl z
    . exact .inr fun y => by obtain ⟨u, hu⟩ := r.own_in b y; rw [hnb b z] at hu; cases hu
    . exact .inr fun y => by obtain ⟨u, hu⟩ := r1.own_in b y; rw [z] at hu; cases hu
  obtain ⟨L', k1, k2, k3⟩ := e6 W' H' l' o' mw nw ev (fun b hb => (hw b).mpr (.inr hb)) np nl hr
  have lo : ∀ b, b ∈ l' -> b ∈ L \/ H b = none := fun b hb => by
    rcases hf b hb with z | z | z
    . exact .inl (e4 b z)
    . exact .inr (hnb b z)
    . exact .inr (ok1.back e z)
  have al : ∀ b, W b -> ∃ ys, H' b = some ys := fun b hb => by
    by_cases z : b ∈ l
    . exact hal b z
    . obtain ⟨y, hy⟩ := ok1.al b hb; exact ⟨y, ev.keep _ _ z hy⟩
  refine ⟨(e.ofP ok).trans (ev.mono lw), ⟨fun q hq => ⟨?_, mw q (.inl (ok.pw q hq))⟩, fun b hb => ((hw b).mp hb).elim (al b) (o'.al hr b)⟩, al, fun b hb => ?_, L', fun b hb => (k1 b hb).elim .inl (lo b), k2, k3⟩
  . obtain ⟨x, y, hy⟩ := (ok1.pu q hq).1
    exact ⟨x, y, ev.keep _ _ (fun z => e3 q z hq) hy⟩
  . rcases (hw b).mp hb with z | z
    . exact .inl z
    . rcases hf b z with y | y | y
      . exact .inl (lw b y)
      . exact .inr (hnb b y)
      . exact .inr (ok1.back e y)
theorem Rs.fin {H1 : Hp} (r : Rs p W K H L σ τ) (ok : Ok p W H) (e : Ev (Pp p) H H1) (ok1 : Ok p W H1) {i : Nat} {o : Own} (h : τ[i]? = some (.dt o)) :
    ∃ a l, σ[i]? = some (some (.ref a)) /\ (∀ b, b ∈ l -> W b) /\ (∀ b, b ∈ l -> p ≠ some b) /\ o.R (fun a => ¬ W a) K H1 a l /\ ∀ (W' : Addr -> Prop) (H' : Hp) (l' : List Addr) (o' : Own), (∀ b, W' b ↔ W b \/ b ∈ l') -> (∀ b, b ∈ l' -> b ∈ l \/ H1 b = none) -> Ev (fun b => b ∈ l) H1 H' -> (∀ b, b ∈ l -> ∃ u, H' b = some u) -> o'.R (fun a => ¬ W' a) K H' a l' ->
      Ev W H H' /\ Ok p W' H' /\ (∀ a, W a -> ∃ ys, H' a = some ys) /\ (∀ a, W' a -> W a \/ H a = none) /\ ∃ L', (∀ a, a ∈ L' -> a ∈ L \/ H a = none) /\ (∀ a, a ∈ l' -> a ∈ L') /\ Rs p W' K H' L' σ (τ.set i (.dt o')) := by
  obtain ⟨a, l, e1, e2, e3, e4, e5, e6⟩ := r.finN ok e ok1 [] (fun b hb => by cases hb) h
  refine ⟨a, l, e1, fun b hb => (e2 b hb).resolve_right (e4 b hb), e3, o.wide e5 fun b u nb _ z => nb (.inl z), fun W' H' l' o' g1 g2 g3 g4 g5 => e6 W' H' l' o' g1 (fun b hb => by cases hb) (fun b hb => (g2 b hb).imp id .inr) g3 g4 g5⟩
theorem S.letTC {C : Own -> Prop} {i : Nat} (h : E p K te τ (fun s => ∃ o, s = .dt o /\ o.Self /\ C o)) (m : ∀ o, C o -> S p K u (τ.set i (.dt o)) nx rt) : S p K (tSeq (tAsg te (gName i)) u) τ nx rt := by
  refine S.seq (M := fun τ' => ∃ o, C o /\ τ' = τ.set i (.dt o)) (fun W L σ H D r o q1 q2 => ?_) fun τ' ⟨ds, c, e⟩ => e ▸ m ds c
  refine h W L σ H _ r o fun v H1 s c e o1 rv => ?_
  obtain ⟨ot, rfl, self, cd⟩ := c
  obtain ⟨a, l, rfl, h1, h2⟩ := rv
  have wid : ∀ b, (W b \/ b ∈ l) -> ¬ W b -> H b = none := fun b hb nb => h1 b (hb.resolve_left nb)
  have r1 : Rs p (fun b => W b \/ b ∈ l) K H1 L σ τ := (r.wide (fun _ h => .inl h) wid).ev e fun q hq => .inl (o.pw q hq)
  have al : ∀ b, b ∈ l -> b ∉ L := fun b hb z => by obtain ⟨_, y⟩ := r.own_in b z; rw [h1 b hb] at y; cases y
  have hz : ot.R (fun b => ¬ (W b \/ b ∈ l)) K H1 a l := ot.wide (self _ _ _ _ _ h2) fun b _ nb _ z => z.elim nb.1 nb.2
  obtain ⟨L', k, r2⟩ := r1.setT (fun b hb => .inr hb) (fun b hb => o.np (h1 b hb)) al hz i
  refine q1 _ L' _ H1 _ ⟨ot, cd, rfl⟩ (e.ofP o) ⟨fun q hq => ⟨(o1.pu q hq).1, .inl (o1.pw q hq)⟩, fun b hb => ?_⟩ o1.al (fun b hb => hb.imp id (h1 b)) (fun b hb => (k b hb).elim (fun z => .inr (h1 b z)) .inl) r2
  exact hb.elim (o1.al b) (ot.al h2 b)
theorem S.letT {i : Nat} (h : E1 p K te τ (.dt o)) (self : o.Self) (m : S p K u τ' nx rt) (e : τ.set i (.dt o) = τ' := by rfl) : S p K (tSeq (tAsg te (gName i)) u) τ nx rt :=
  S.letTC (C := fun x => o = x) (E.mono h fun s hs => ⟨o, hs.symm, self, rfl⟩) fun x hx => by subst hx; rw [e]; exact m
end
end
end D
section
namespace L2
open PySem PySem.Spec PyProof.Rows
section
variable {X : Cx} {e o i value k : Expr} {td ty tv te : TE} {pos pos' p : Pos} {σ : St} {H : Hp} {s : Shared} {a b : Addr}
theorem u1 {n : Nat} (h : n + 64 < cLine) : n + 1 < cLine := by omega
theorem ze_dnewK : ZE X (.Dict [] [] pos) tDNewK := ⟨pe_dnewK⟩
theorem zs_dput (hu : X.A.units + 64 < cLine) (ho : ZE X o td) (hi : ZE X i ty) (hv : ZE X value tv) (hs : swapsWith value (some (.Subscript o i pos')) pos.line X.env = pure false := by rfl) : ZS X (.Assign [.Subscript o i pos'] value pos) (sDPut td ty tv) := ⟨ps_dput (u1 hu) ho.out hi.out hv.out hs⟩
theorem ze_dget (hu : X.A.units + 64 < cLine) (ho : ZE X o td) (hi : ZE X i ty) (hs : NoSl i) : ZE X (.Subscript o i pos) (tDGet td ty) := ⟨pe_dget (u1 hu) ho.out hi.out hs⟩
end
end L2
namespace D
open PySem L2 K0 Num
open PySem.W (Dat)
structure Dct where
  b : Bool
  kd : List (List Int × Dat)
noncomputable def dHd (x : List Key × V) : Key × V := (x.1.headD (Sum.inl 0), x.2)
noncomputable def dO : Bool -> List (List Key × V) -> HO
  | true, vs => .dT vs
  | false, vs => .dK (vs.map dHd)
structure Dts (N : Addr -> Prop) (K : PySem.W.Frag) (H : Hp) (vk : List (List Key × V)) (kd : List (List Int × Dat)) : Prop where
  ks : vk.map (·.1) = kd.map fun k => k.1.map Sum.inl
  vs : Dzs N K H (vk.map (·.2)) (kd.map (·.2))
noncomputable def lookD (kd : List (List Int × Dat)) (k : List Int) : Option Dat := (kd.find? fun x => decide (x.1 = k)).map (·.2)
noncomputable def putD (kd : List (List Int × Dat)) (k : List Int) (d : Dat) : List (List Int × Dat) :=
  if (kd.any fun x => decide (x.1 = k)) = true then kd.map (fun x => if x.1 = k then (x.1, d) else x) else kd ++ [(k, d)]
noncomputable def Sing (kd : List (List Int × Dat)) : Prop := ∀ x ∈ kd, ∃ n, x.1 = [n]
noncomputable def DC (N : Addr -> Prop) (K : PySem.W.Frag) (H : Hp) (a : Addr) (ds : Dct) : Prop := (ds.b = false -> Sing ds.kd) /\ ∃ vs, H a = some (dO ds.b vs) /\ Dts N K H vs ds.kd
noncomputable def dtO (ds : Dct) : Own where
  R N K H a l := l = [a] /\ DC N K H a ds
  ev := fun ⟨e, s, vs, h, z⟩ ev nw hl => ⟨e, s, vs, hl _ _ (by rw [e]; exact List.mem_singleton_self _) h, z.ks, z.vs.ev ev nw⟩
  wide := fun ⟨e, s, vs, h, z⟩ n => ⟨e, s, vs, h, z.ks, z.vs.widen n⟩
  al := fun ⟨e, s, vs, h, z⟩ b hb => by rw [e, List.mem_singleton] at hb; subst hb; exact ⟨_, h⟩
noncomputable def vwO (ds : Dct) : Own where
  R N K H a l := l = [] /\ N a /\ DC N K H a ds
  ev := fun ⟨e, na, s, vs, h, z⟩ ev nw hl => ⟨e, na, s, vs, ev.keep _ _ (nw _ na) h, z.ks, z.vs.ev ev nw⟩
  wide := fun ⟨e, na, s, vs, h, z⟩ n => ⟨e, n _ _ na h, s, vs, h, z.ks, z.vs.widen n⟩
  al := fun ⟨e, _⟩ b hb => by rw [e] at hb; cases hb
section
variable {p : Option Addr} {K : PySem.W.Frag} {N W : Addr -> Prop} {L : List Addr} {σ : St} {H : Hp} {τ τ' : List Sl} {te tv : TE} {u : TS} {nx : List Sl -> Prop} {rt : Sl -> Prop}
theorem dtO_self {ds : Dct} (nl : noLs (ds.kd.map (·.2)) = true) : (dtO ds).Self := fun N K H a l ⟨e, s, vs, h, z⟩ => ⟨e, s, vs, h, z.ks, z.vs.free nl⟩
theorem inl_inj : ∀ {xs ys : List Int}, xs.map (Sum.inl : Int -> Key) = ys.map Sum.inl -> xs = ys
  | [], [], _ => rfl
  | [], _ :: _, h => by cases h
  | _ :: _, [], h => by cases h
  | x :: xs, y :: ys, h => by
    rw [List.map_cons, List.map_cons] at h
    injection h with h1 h2
    rw [Sum.inl.inj h1, inl_inj h2]
theorem Dts.len {vk : List (List Key × V)} {kd : List (List Int × Dat)} (h : Dts N K H vk kd) : vk.length = kd.length := by
  have e := congrArg List.length h.ks
  rwa [List.length_map, List.length_map] at e
theorem Dts.cons_inv {x : List Key × V} {vk : List (List Key × V)} {y : List Int × Dat} {kd : List (List Int × Dat)} (h : Dts N K H (x :: vk) (y :: kd)) : x.1 = y.1.map Sum.inl /\ Dz N K H x.2 y.2 /\ Dts N K H vk kd := by
  obtain ⟨hk, hv⟩ := h
  rw [List.map_cons, List.map_cons] at hk hv
  injection hk with h1 h2
  cases hv with
  | cons c r => exact ⟨h1, c, h2, r⟩
theorem valV_look : ∀ {vk : List (List Key × V)} {kd : List (List Int × Dat)}, Dts N K H vk kd -> ∀ (k : List Int), match lookD kd k with | none => valV vk (k.map Sum.inl) = none | some d => ∃ v, valV vk (k.map Sum.inl) = some v /\ Dz N K H v d
  | [], [], _, k => rfl
  | [], _ :: _, h, _ => by have := h.ks; cases this
  | _ :: _, [], h, _ => by have := h.ks; cases this
  | x :: vk, y :: kd, h, k => by
    obtain ⟨h1, h2, h3⟩ := h.cons_inv
    have ih := valV_look h3 k
    unfold lookD at ih ⊢
    by_cases e : y.1 = k
    . rw [List.find?_cons, decide_eq_true e]
      exact ⟨x.2, valV_pos (by rw [h1, e]), h2⟩
    . rw [List.find?_cons, decide_eq_false e, valV_neg (fun z => e (inl_inj (h1.symm.trans z)))]
      exact ih
theorem lookD_any (kd : List (List Int × Dat)) (k : List Int) : (kd.any fun x => decide (x.1 = k)) = (lookD kd k).isSome := by
  induction kd with
  | nil => rfl
  | cons y kd ih =>
    unfold lookD at ih ⊢
    rw [List.any_cons, List.find?_cons]
    by_cases e : y.1 = k
    . rw [decide_eq_true e]; rfl
    . rw [decide_eq_false e, Bool.false_or]; exact ih
theorem valV_dt {vk : List (List Key × V)} {kd : List (List Int × Dat)} (h : Dts N K H vk kd) (k : List Int) : (valV vk (k.map Sum.inl)).isSome = (lookD kd k).isSome := by
  have := valV_look h k
  cases e : lookD kd k with
  | none => rw [e] at this; rw [this]; rfl
  | some d => rw [e] at this; obtain ⟨v, h1, _⟩ := this; rw [h1]; rfl
theorem Dts.put {vk : List (List Key × V)} {kd : List (List Int × Dat)} {k : List Int} {v : V} {d : Dat} (h : Dts N K H vk kd) (z : Dz N K H v d) : Dts N K H (putK vk (k.map Sum.inl) v) (putD kd k d) := by
  have e : (vk.any fun kv => decide (kv.1 = k.map Sum.inl)) = kd.any fun x => decide (x.1 = k) := by rw [valV_any, lookD_any, valV_dt h k]
  unfold putK putD
  rw [e]
  split
  . exact go h
  . exact ⟨by rw [List.map_append, List.map_append, h.ks]; rfl, by rw [List.map_append, List.map_append]; exact h.vs.app (.cons z .nil)⟩
where
  go : ∀ {vk : List (List Key × V)} {kd : List (List Int × Dat)}, Dts N K H vk kd -> Dts N K H (vk.map fun (kv : List Key × V) => if kv.1 = (k.map Sum.inl : List Key) then (kv.1, v) else kv) (kd.map fun (x : List Int × Dat) => if x.1 = k then (x.1, d) else x)
    | [], [], _ => ⟨rfl, .nil⟩
    | [], _ :: _, h => by have := h.ks; cases this
    | _ :: _, [], h => by have := h.ks; cases this
    | x :: vk, y :: kd, h => by
      obtain ⟨h1, h2, h3⟩ := h.cons_inv
      have g := go h3
      rw [List.map_cons, List.map_cons]
      by_cases q : y.1 = k
      . rw [if_pos (show x.1 = k.map Sum.inl by rw [<- q]; exact h1), if_pos q]
        exact ⟨by rw [List.map_cons, List.map_cons, g.ks, h1], by rw [List.map_cons, List.map_cons]; exact .cons z g.vs⟩
      . rw [if_neg (fun w => q (inl_inj (h1.symm.trans w))), if_neg q]
        exact ⟨by rw [List.map_cons, List.map_cons, g.ks, h1], by rw [List.map_cons, List.map_cons]; exact .cons h2 g.vs⟩
theorem hd_val : ∀ {vk : List (List Key × V)} {kd : List (List Int × Dat)}, Dts N K H vk kd -> Sing kd -> ∀ (k : Int), valV (vk.map dHd) (Sum.inl k) = valV vk [Sum.inl k]
  | [], [], _, _, k => rfl
  | [], _ :: _, h, _, _ => by have := h.ks; cases this
  | _ :: _, [], h, _, _ => by have := h.ks; cases this
  | x :: vk, y :: kd, h, s, k => by
    obtain ⟨h1, h2, h3⟩ := h.cons_inv
    have ih := hd_val h3 (fun z hz => s z (List.mem_cons_of_mem _ hz)) k
    obtain ⟨n, hn⟩ := s y List.mem_cons_self
    rw [hn] at h1
    have e0 : (dHd x).1 = Sum.inl n := by unfold dHd; rw [h1]; rfl
    rw [List.map_cons]
    by_cases e : n = k
    . rw [valV_pos (by rw [e0, e]), valV_pos (by rw [h1, e]; rfl)]; rfl
    . rw [valV_neg (fun z => e (by rw [e0] at z; exact Sum.inl.inj z)), valV_neg (fun z => e (by rw [h1] at z; injection z with z _; exact Sum.inl.inj z)), ih]
theorem hd_put {vk : List (List Key × V)} {kd : List (List Int × Dat)} (h : Dts N K H vk kd) (s : Sing kd) (k : Int) (v : V) : putK (vk.map dHd) (Sum.inl k) v = (putK vk [Sum.inl k] v).map dHd := by
  unfold putK
  have e : ((vk.map dHd).any fun kv => decide (kv.1 = Sum.inl k)) = vk.any fun kv => decide (kv.1 = [Sum.inl k]) := by rw [valV_any, valV_any, hd_val h s]
  rw [e]
  split
  . exact go h s
  . rw [List.map_append]; rfl
where
  go : ∀ {vk : List (List Key × V)} {kd : List (List Int × Dat)}, Dts N K H vk kd -> Sing kd -> (vk.map dHd).map (fun kv => if kv.1 = Sum.inl k then (kv.1, v) else kv) = (vk.map fun kv => if kv.1 = [Sum.inl k] then (kv.1, v) else kv).map dHd
    | [], [], _, _ => rfl
    | [], _ :: _, h, _ => by have := h.ks; cases this
    | _ :: _, [], h, _ => by have := h.ks; cases this
    | x :: vk, y :: kd, h, s => by
      obtain ⟨h1, h2, h3⟩ := h.cons_inv
      have ih := go h3 fun z hz => s z (List.mem_cons_of_mem _ hz)
      obtain ⟨n, hn⟩ := s y List.mem_cons_self
      rw [hn] at h1
      have e0 : (dHd x).1 = Sum.inl n := by unfold dHd; rw [h1]; rfl
      rw [List.map_cons, List.map_cons, List.map_cons, List.map_cons, ih]
      congr 1
      by_cases e : n = k
      . rw [if_pos (by rw [e0, e]), if_pos (by rw [h1, e]; rfl)]; rfl
      . rw [if_neg (fun z => e (by rw [e0] at z; exact Sum.inl.inj z)), if_neg (fun z => e (by rw [h1] at z; injection z with z _; exact Sum.inl.inj z))]
theorem sing_put {kd : List (List Int × Dat)} (s : Sing kd) (k : Int) (d : Dat) : Sing (putD kd [k] d) := fun x hx => by
  unfold putD at hx
  split at hx
  . obtain ⟨y, hy, e⟩ := List.mem_map.mp hx
    by_cases q : y.1 = [k]
    . rw [if_pos q] at e; subst e; exact ⟨k, q⟩
    . rw [if_neg q] at e; subst e; exact s y hy
  . rcases List.mem_append.mp hx with hx | hx
    . exact s x hx
    . rw [List.mem_singleton] at hx; subst hx; exact ⟨k, rfl⟩
theorem E1.newDK : E1 p K tDNewK τ (.dt (dtO ⟨false, []⟩)) := fun W L σ H Q r o q a ha => by
  have s1 := Same.new ha (.dK [])
  exact q _ _ _ rfl (Ev.of s1) (o.same s1) ⟨a, [a], rfl, fun b hb => by rw [List.mem_singleton] at hb; subst hb; exact ha, rfl, (fun _ x hx => by cases hx), [], upd_same, rfl, .nil⟩
theorem S.letDK {i : Nat} (m : S p K u τ' nx rt) (e0 : τ.set i (.dt (dtO ⟨false, []⟩)) = τ' := by rfl) : S p K (tSeq (tAsg tDNewK (gName i)) u) τ nx rt := S.letT E1.newDK (dtO_self rfl) m e0
noncomputable def IsDC (o : Own) (ds : Dct) : Prop := ∀ (N : Addr -> Prop) (K : PySem.W.Frag) (H : Hp) (a : Addr) (l : List Addr), o.R N K H a l -> DC N K H a ds
theorem isDC_own {ds : Dct} : IsDC (dtO ds) ds := fun _ _ _ _ _ h => h.2
theorem isDC_vw {ds : Dct} : IsDC (vwO ds) ds := fun _ _ _ _ _ h => h.2.2
theorem E1.getDK {i : Nat} {o : Own} {kd : List (List Int × Dat)} {k : Int} {d : Dat} (h : τ[i]? = some (.dt o)) (ho : IsDC o ⟨false, kd⟩) (he : E1 p K te τ (.dat (.int k))) (hd : lookD kd [k] = some d) : E1 p K (tDGet (tVar i) te) τ (.dat d) := fun W L σ H Q r o q => by
  obtain ⟨a, l, g1, _, _, _, g5⟩ := r.get_t h
  refine ⟨_, g1, he W L σ H _ r o fun v H1 s e e1 o1 rv => ?_⟩
  subst e
  cases rv.int_inv
  obtain ⟨a', l', g1', _, _, _, g5'⟩ := (r.ev e1 o.pw).get_t h
  rw [g1] at g1'; cases g1'
  obtain ⟨sg, vs, g6, g7⟩ := ho _ _ _ _ _ g5'
  have z := valV_look g7 [k]
  rw [hd] at z
  obtain ⟨v, z1, z2⟩ := z
  exact ⟨a, v, rfl, .inl ⟨_, Sum.inl k, .inl g6, rfl, by rw [hd_val g7 (sg rfl) k]; exact z1.symm⟩, q _ H1 _ rfl e1 o1 z2⟩
theorem tm_dO {b : Bool} {H : Hp} {D : Addr} {ys : List (List Key × V)} (h : H D = some (dO b ys)) (o : HO) : Tm H (upd H D o) := fun K a xs q => by
  rcases q with (q | ⟨ob, q⟩) | q
  . exact .inl (.inl (by rw [upd_ne (ne_of q h (fun z => by cases b <;> cases z))]; exact q))
  . exact .inl (.inr ⟨ob, by rw [upd_ne (ne_of q h (fun z => by cases b <;> cases z))]; exact q⟩)
  . exact .inr q
theorem put_end {i : Nat} {b : Bool} {kd : List (List Int × Dat)} {k : List Int} {d : Dat} {W : Addr -> Prop} {L : List Addr} {σ : St} {H H2 : Hp} {v : V} (h : τ[i]? = some (.dt (dtO ⟨b, kd⟩))) (r : Rs p W K H L σ τ) (o : Ok p W H) (e : Ev (Pp p) H H2) (o2 : Ok p W H2) (zv : Dz (fun a => ¬ W a) K H2 v d) (sg : b = false -> Sing (putD kd k d)) (D : Ends)
    (q1 : ∀ (W' : Addr -> Prop) (L' : List Addr) σ' H' τ', nx τ' -> Ev W H H' -> Ok p W' H' -> (∀ a, W a -> ∃ ys, H' a = some ys) -> (∀ a, W' a -> W a \/ H a = none) -> (∀ a, a ∈ L' -> a ∈ L \/ H a = none) -> Rs p W' K H' L' σ' τ' -> D.nx σ' H') (m : nx (τ.set i (.dt (dtO ⟨b, putD kd k d⟩)))) :
    ∃ a vs, σ[i]? = some (some (.ref a)) /\ H2 a = some (dO b vs) /\ Dts (fun a => ¬ W a) K H2 vs kd /\ (b = false -> Sing kd) /\ D.nx σ (upd H2 a (dO b (putK vs (k.map Sum.inl) v))) := by
  obtain ⟨a, l, g1, g2, g3, ⟨rfl, sg0, vs, g5, g6⟩, fin⟩ := r.fin o e o2 h
  have w : W a := g2 a (List.mem_singleton_self _)
  have ev : Ev (fun b => b = a) H2 (upd H2 a (dO b (putK vs (k.map Sum.inl) v))) := ⟨fun b o n h => by rw [upd_ne n]; exact h, tm_dO g5 _⟩
  obtain ⟨k1, k2, k3, k4, L', k5, k6, k7⟩ := fin W _ [a] (dtO ⟨b, putD kd k d⟩) (fun c => ⟨.inl, fun z => z.elim id (g2 c)⟩) (fun c hc => .inl hc) (ev.mono fun c hc => by rw [hc]; exact List.mem_singleton_self _) (fun c hc => by rw [List.mem_singleton] at hc; subst hc; exact ⟨_, upd_same⟩)
    ⟨rfl, sg, _, upd_same, ((g6.put zv).ks), ((g6.put zv).vs.ev ev fun c nc z => nc (by rw [z]; exact w))⟩
  exact ⟨a, vs, g1, g5, g6, sg0, q1 W L' σ _ _ m k1 k2 k3 k4 k5 k7⟩
theorem S.putDK {i : Nat} {kd : List (List Int × Dat)} {k : Int} {d : Dat} (h : τ[i]? = some (.dt (dtO ⟨false, kd⟩))) (hk : E1 p K te τ (.dat (.int k))) (hv : E1 p K tv τ (.dat d)) (hz : kd.length < sizeLine) (hs : Sing kd) (m : nx τ') (e0 : τ.set i (.dt (dtO ⟨false, putD kd [k] d⟩)) = τ' := by rfl) : S p K (sDPut (tVar i) te tv) τ nx rt := fun W L σ H D r o q1 q2 => by
  refine hv W L σ H _ r o fun v H1 s c e1 o1 rv => ?_
  subst c
  have r1 := r.ev e1 o.pw
  obtain ⟨a0, _, g1, _⟩ := r1.get_t h
  refine ⟨_, g1, ?_⟩
  refine hk W L σ H1 _ r1 o1 fun b H2 s c e2 o2 rk => ?_
  subst c
  cases rk.int_inv
  subst e0
  obtain ⟨a, vs, k1, k2, k3, _, k4⟩ := put_end (k := [k]) h r o (e1.trans e2) o2 (Dz.ev e2 o1.nw rv) (fun _ => sing_put hs k d) D q1 m
  rw [g1] at k1; cases k1
  refine ⟨a0, _, rfl, DPut.k (k := Sum.inl k) k2 (by rw [List.length_map, k3.len]; exact hz), ?_⟩
  rw [hd_put k3 hs k v]; exact k4
end
end D
end
section
namespace PySem
namespace F
theorem lri_no_len : typeLookup (.type "list_reverseiterator") "__len__" = pure none := by rw [typeLookup_type, builtinLookup_eq_fast]; kernel_rfl
theorem lri_hint : typeLookup (.type "list_reverseiterator") "__length_hint__" = pure (some (.builtin "list_reverseiterator.__length_hint__")) := by rw [typeLookup_type, builtinLookup_eq_fast]; kernel_rfl
end F
section
variable {prog : Program} {w : World} {A : Around} {E : Value -> Shared -> Prop} {s : Shared}
theorem wpAny_hint_rev {it l : Addr} {i : Int} {Q : Bool -> Shared -> Prop} (hit : s.heap.IsRevIter it l i) (h : Q false s) : wpAny (model prog w) A (Builtin.List.listLengthHint (.ref it)) Q E s := by
  unfold Builtin.List.listLengthHint
  refine wpAny_bind (wpAny_specialOf hit.typeIs F.lri_no_len ?_)
  show wpAny _ _ (specialOf (Value.ref it) (Str.ofString "__length_hint__") >>= _) _ _ _
  refine wpAny_bind (wpAny_specialOf hit.typeIs F.lri_hint ?_)
  generalize hid : ("list_reverseiterator.__length_hint__" : String) = id0
  wp_delta
  rw [show splitId id0 = some ("list_reverseiterator", "__length_hint__") from by subst hid; decide +kernel]
  subst hid
  refine wpAny_bind (wpAny_isInstance (T := "list_reverseiterator") (b := true) hit.typeIs (by rw [isSubtype_type]; kernel_rfl) ?_)
  refine wpAny_ite_split (fun hab => absurd hab (by decide)) (fun _ => ?_)
  refine wpAny_ite_split (fun _ => ?_) (fun hab => absurd (by decide +kernel) hab)
  refine wpAny_ite_split (fun hab => absurd hab (by decide +kernel)) (fun _ => ?_)
  exact wpAny_pure h
theorem wpAny_extend_rev {R : Result -> Shared -> Prop} {I l : Addr} {items : Array Value} (hh : A.handled = none) (hne : l ≠ I) (S : Addr) (res : Value) (c₀ : Nat) (hit : s.heap.IsRevIter I l ((items.size : Int) - 1)) (hl : s.heap.IsList l items) (hSI : S ≠ I) (hSl : S ≠ l)
    (hS : s.heap.get? S = some { cls := .type "list", data := .seq #[] c₀ })
    (hR : ∀ s' acc' c', Moved (S :: [I]) (fun a b => b = a) s s' -> s'.heap.get? S = some { cls := .type "list", dict := none, data := .seq acc' c', slots := #[] } -> ItemsOf (fun i v => items[items.size - 1 - i]? = some v) acc' items.size -> R (.ok (.ret res)) s') (hn : items.size <= sizeLine) :
    wpAny (model prog w) A.in1 (Builtin.List.listExtendWith (.ref S) (.ref I) res)
      (fun fin s' => match fin with | .done f => R (.ok f) s' | .again c' => c'.quiet = true /\ codeAny (model prog w) A c' R s') (fun e s' => R (.error e) s') s := by
  have W := (Walks.listRev (prog := prog) (w := w) (A := A.in1) hh I l hne items).toS
  have e0 : ((items.size : Int) - 1 - ((0 : Nat) : Int)) = (items.size : Int) - 1 := by omega
  have hSf : S ∉ [I, l] := fun hm => by
    rcases List.mem_cons.mp hm with e | hm
    . exact hSI e
    . exact hSl (List.mem_singleton.mp hm)
  unfold Builtin.List.listExtendWith
  refine wpAny_bind (wpAny_typeOf hit.typeIs ?_)
  have h1 : Builtin.List.listSameRef (.ref S) (.ref I) = false := by simp [Builtin.List.listSameRef, hSI]
  have h2 : (Value.type "list_reverseiterator" == Value.type "list") = false := by decide
  have h3 : (Value.type "list_reverseiterator" == Value.type "tuple") = false := by decide
  simp only [h1, h2, h3, Bool.or_false, Bool.false_eq_true, if_false]
  refine wpAny_bind (wpAny_pyIter_revIter hit ?_)
  refine wpAny_bind (wpAny_holding (wpAny_hint_rev hit ?_))
  refine wpAny_ite_split (fun hab => absurd hab (by decide +kernel)) (fun _ => ?_)
  refine wpAny_pure ⟨plainId_quiet F.plain_extend_loop _, codeAny_extend_loopS W hn _ hSf _ items.size 0 _ _ _ rfl (Nat.zero_le _) ⟨Nat.zero_le _, by rw [e0]; exact hit, hl⟩ hS (ItemsOf.nil _) fun s' acc' c' hm hS' hacc => ?_⟩
  exact hR s' acc' c' hm hS' hacc
theorem wpAny_list_init_rev {R : Result -> Shared -> Prop} {I l : Addr} {items : Array Value} (hh : A.handled = none) (hne : l ≠ I) (S : Addr) (hit : s.heap.IsRevIter I l ((items.size : Int) - 1)) (hl : s.heap.IsList l items) (hSI : S ≠ I) (hSl : S ≠ l)
    (hS : s.heap.get? S = some { cls := .type "list", data := .seq #[] })
    (hR : ∀ s' acc' c', Moved (S :: [I]) (fun a b => b = a) s s' -> s'.heap.get? S = some { cls := .type "list", dict := none, data := .seq acc' c', slots := #[] } -> ItemsOf (fun i v => items[items.size - 1 - i]? = some v) acc' items.size -> R (.ok (.ret .none)) s') (hn : items.size <= sizeLine) :
    wpAny (model prog w) A.in1 (Builtin.«list.__init__» ⟨[.ref S, .ref I], []⟩)
      (fun fin s' => match fin with | .done f => R (.ok f) s' | .again c' => c'.quiet = true /\ codeAny (model prog w) A c' R s') (fun e s' => R (.error e) s') s := by
  show wpAny _ A.in1 (do let old <- Builtin.List.listItems (.ref S); Builtin.List.listUpdate (.ref S) (fun _ => #[]); letGo old.toList.reverse; Builtin.List.listExtendWith (.ref S) (.ref I) .none) _ _ s
  refine wpAny_bind ?_
  unfold Builtin.List.listItems
  refine wpAny_bind (wpAny_seqItems hS rfl (wpAny_pure ?_))
  show wpAny _ A.in1 (updateSeq S (fun _ => #[]) >>= fun _ => letGo (#[] : Array Value).toList.reverse >>= fun _ => Builtin.List.listExtendWith (.ref S) (.ref I) .none) _ _ s
  refine wpAny_bind (wpAny_updateSeq hS rfl ?_)
  have hS₂ := Heap.get?_update_self (Obj.mapSeq (fun _ => (#[] : Array Value))) hS rfl
  have oth : ∀ b o, b ≠ S -> s.heap.get? b = some o -> (s.heap.update S (Obj.mapSeq (fun _ => (#[] : Array Value)))).get? b = some o :=
    fun b o hb e => (Heap.get?_update_other _ _ (Ne.symm hb)).trans e
  refine wpAny_bind (wpAny_letGo ?_)
  refine wpAny_extend_rev hh hne S .none _ (hit.at fun o e => oth I o (Ne.symm hSI) e) (hl.at fun o e => oth l o (Ne.symm hSl) e) hSI hSl hS₂ (fun s' acc' c' hm hS' hacc => ?_) hn
  have m0 : Moved (S :: [I]) (fun a b => b = a) s { s with heap := s.heap.update S (Obj.mapSeq (fun _ => (#[] : Array Value))) } := (Moved.refl (wr := S :: [I]) (G := fun a b => b = a) (s := s) (fun _ => rfl)).then_heap (Nat.le_refl _) fun b o hb e => oth b o (fun h => hb (by rw [h]; exact List.mem_cons_self)) e
  exact hR s' acc' c' (Moved.trans (fun _ _ _ h1 h2 => h2.trans h1) m0 hm) hS' hacc
theorem call_list_rev {Q : Value -> Shared -> Prop} {I l : Addr} {items : Array Value} (hh : A.handled = none) (hne : l ≠ I) (hit : s.heap.IsRevIter I l ((items.size : Int) - 1)) (hl : s.heap.IsList l items)
    (hQ : ∀ s' acc' c', Moved (s.heap.objs.size :: [I]) (fun a b => b = a) { s with heap := s.heap.push { cls := .type "list", data := .seq #[] } } s' ->
      s'.heap.get? s.heap.objs.size = some { cls := .type "list", dict := none, data := .seq acc' c', slots := #[] } -> ItemsOf (fun i v => items[items.size - 1 - i]? = some v) acc' items.size -> Q (.ref s.heap.objs.size) s') (hn : items.size <= sizeLine) :
    wpAny (model prog w) A (call (.type "list") [.ref I]) Q E s := by
  refine callType_codes (Q₁ := fun obj s₁ => obj = .ref s.heap.objs.size /\ s₁ = { s with heap := s.heap.push { cls := .type "list", data := .seq #[] } }) F.called_list (F.typeCall_list_1 _) F.entry_list_init
    (code_list_new _ ⟨rfl, rfl⟩) fun obj s₁ h₁ => ?_
  obtain ⟨rfl, rfl⟩ := h₁
  have hS : (s.heap.push { cls := .type "list", data := .seq #[] }).get? s.heap.objs.size = some { cls := .type "list", data := .seq #[] } := Heap.get?_push_size _ rfl
  have lt : ∀ {b o}, s.heap.get? b = some o -> s.heap.objs.size ≠ b := fun e z => Nat.lt_irrefl _ (z ▸ Heap.lt_size e)
  obtain ⟨oi, hoi, _⟩ := id hit
  obtain ⟨ol, hol, _⟩ := id hl
  refine ⟨⟨_, hS, rfl⟩, F.args_list_init_2 _ _, wpAny_list_init_rev (A := A.in1) hh hne _ (hit.at fun o e => Heap.get?_push_of_some _ e) (hl.at fun o e => Heap.get?_push_of_some _ e) (lt hoi) (lt hol) hS (fun s' acc' c' hm hS' hacc => ?_) hn⟩
  exact ⟨rfl, hQ s' acc' c' hm hS' hacc⟩
end
end PySem
namespace L2
open PySem PySem.Spec PyProof.Rows
noncomputable def tListRev (K : PySem.W.Frag) (ta : TA) : TE := fun σ H Q => ta σ H fun vs H1 => ∃ a xs, vs = [.ref a] /\ SqL K H1 a xs /\ ∀ l, H1 l = none -> Q (.ref l) (upd H1 l (.lst xs.reverse))
section
variable {X : Cx}
theorem pe_listrev {a : Expr} {ta : TA} {p p' pos pos' : Pos} (hc : X.calm = true) (hg0 : Gl X "list") (hm0 : X.mg "list" = none) (hg : Gl X "reversed") (hm : X.mg "reversed" = none) (ha : PA X [a] ta) (hs : starEach [a] X.env = [(false, eval a X.env)] := by rfl) (hs' : starEach [.Call (.Name "reversed" p) [a] [] pos] X.env = [(false, eval (.Call (.Name "reversed" p) [a] [] pos) X.env)] := by rfl) :
    PE X (.Call (.Name "list" p') [.Call (.Name "reversed" p) [a] [] pos] [] pos') (tListRev X.K ta) := by
  intro pins s σ H Q I h
  refine wpAny_Call_Name_kw (ld_blt I hg0 hm0 (u := .type "list") (by rfl) ?_)
  refine PyProof.Rows.callWith_type1 ?_ hs' rfl
  rw [hs']
  show wpAny _ _ (spliced ((false, eval _ X.env) :: backTo pos' [])) _ _ s
  refine Calls.spliced_cons ?_
  refine Call_ (ld_blt I hg hm (u := .type "reversed") (by rfl) (PyProof.Rows.callWith_type1 (thn (ha pos pins s σ H _ I h) fun us s1 ⟨vs, H1, I1, r1, q1⟩ => ?_) hs rfl))
  obtain ⟨l, xs, e, hq, q⟩ := q1
  subst e
  obtain ⟨u, rfl, ru⟩ := vals1 r1
  cases ru
  obtain ⟨its, rv, pp, hz⟩ := I1.list hq
  refine call_reversed_list pp.isList ?_
  have hl := rv.length
  have hlt : l < s1.heap.objs.size := by obtain ⟨o, ho, _⟩ := pp.isList; exact Heap.lt_size ho
  refine wpAny_pure ?_
  refine call_list_rev (I := s1.heap.objs.size) (l := l) (items := its.toArray) (I1.ok.hd hc) (Nat.ne_of_lt hlt) ⟨_, Heap.get?_push_size _ rfl, rfl, rfl⟩ (pp.isList.at fun o e => Heap.get?_push_of_some _ e) (fun s' acc' c' hm' hS' hacc => ?_) (by rw [List.size_toArray]; omega)
  have hlen : acc'.toList = its.reverse := by
    refine List.ext_getElem? fun i => ?_
    have sz : acc'.size = its.length := by rw [hacc.1, List.size_toArray]
    by_cases hi : i < its.length
    . rw [List.getElem?_reverse hi]
      have e1 : acc'[i]? = some acc'[i] := Array.getElem?_eq_getElem (by omega)
      have e2 := hacc.2 i _ e1
      rw [List.size_toArray] at e2
      rw [Array.getElem?_toList, e1]
      simpa using e2.symm
    . rw [List.getElem?_eq_none (by rw [Array.length_toList]; omega), List.getElem?_eq_none (by rw [List.length_reverse]; omega)]
  have ea : acc' = its.reverse.toArray := by rw [<- hlen]
  subst ea
  rw [Moved.eq_with hm']
  have kp : ∀ b u, s1.heap.get? b = some u -> s'.heap.get? b = some u := fun b u e => hm'.heap b u (fun z => by
    have lt := Heap.lt_size e
    rcases List.mem_cons.mp z with z | z
    . have g : s1.heap.objs.size <= (s1.heap.push (revObj l ((its.toArray.size : Int) - 1))).objs.size := by simp [Heap.push]
      rw [z] at lt; exact absurd (Nat.lt_of_lt_of_le lt g) (Nat.lt_irrefl _)
    . rw [List.mem_singleton.mp z] at lt; exact Nat.lt_irrefl _ lt) (Heap.get?_push_of_some _ (Heap.get?_push_of_some _ e))
  exact ⟨.ref _, _, I1.laid (t' := s'.toks) kp (by simp [Heap.push]) (show ObjOk X.prog X.w _ s'.heap _ (.lst xs.reverse) from ⟨by rw [List.length_reverse]; omega, its.reverse, c', rv.reverse, hS'⟩), rfl, q _ (I1.hok.fresh (by simp [Heap.push]))⟩
theorem ze_listrev {a : Expr} {ta : TA} {p p' pos pos' : Pos} (hc : X.calm = true) (hg0 : Gl X "list") (hm0 : X.mg "list" = none) (hg : Gl X "reversed") (hm : X.mg "reversed" = none) (ha : ZA X [a] ta) (hs : starEach [a] X.env = [(false, eval a X.env)] := by rfl) (hs' : starEach [.Call (.Name "reversed" p) [a] [] pos] X.env = [(false, eval (.Call (.Name "reversed" p) [a] [] pos) X.env)] := by rfl) :
    ZE X (.Call (.Name "list" p') [.Call (.Name "reversed" p) [a] [] pos] [] pos') (tListRev X.K ta) := ⟨pe_listrev hc hg0 hm0 hg hm ha.out hs hs'⟩
end
end L2
end
namespace D
open PySem L2 K0 Num
open PySem.W (Dat)
noncomputable def rq (f g : List Int) : Rat := qv (sop f g * sop f g) (nrm f * nrm g)
noncomputable def rho (fs : List (List Int)) (i j : Nat) : Rat := rq (fs.getD i []) (fs.getD j [])
noncomputable def iD (l : List Int) : Dat := .list (l.map .int)
noncomputable def nI (l : List Nat) : List Int := l.map fun (n : Nat) => (n : Int)
theorem mem_nI {l : List Nat} {n : Nat} : (n : Int) ∈ nI l ↔ n ∈ l := by
  unfold nI
  rw [List.mem_map]
  constructor
  . rintro ⟨m, h, e⟩; have : m = n := by omega
    rw [<- this]; exact h
  . exact fun h => ⟨n, h, rfl⟩
theorem qv_lt {a b c d : Int} (hb : 0 < b) (hd : 0 < d) : qv a b < qv c d ↔ a * d < c * b := by
  unfold qv
  have hb' : (0 : Rat) < (b : Rat) := by exact_mod_cast hb
  have hd' : (0 : Rat) < (d : Rat) := by exact_mod_cast hd
  rw [Rat.div_lt_iff hb']
  rw [show (c : Rat) / d * b = (c * b) / d by rw [Rat.div_def, Rat.div_def]; grind]
  rw [Rat.lt_div_iff hd']
  constructor
  . intro h; exact_mod_cast h
  . intro h; exact_mod_cast h
theorem rq_nn (f g : List Int) (h1 : 0 < nrm f) (h2 : 0 < nrm g) : 0 <= rq f g := by
  unfold rq qv
  have hp := Int.mul_pos h1 h2
  have : (0 : Rat) < ((nrm f * nrm g : Int) : Rat) := by exact_mod_cast hp
  have h0 : (0 : Rat) <= ((sop f g * sop f g : Int) : Rat) := by exact_mod_cast (by
    rcases Int.le_total 0 (sop f g) with h | h
    . exact Int.mul_nonneg h h
    . exact Int.mul_nonneg_of_nonpos_of_nonpos h h : (0 : Int) <= sop f g * sop f g)
  rw [Rat.div_def]
  exact Rat.mul_nonneg h0 (Rat.le_of_lt (Rat.inv_pos.mpr this))
noncomputable def RLess : List Dat -> Dat -> Prop := fun ds r => ∃ a b c d : Int, ds = [tI [a, b], tI [c, d]] /\ 0 < b /\ 0 < d /\ Bt a 8000 /\ Bt b 8000 /\ Bt c 8000 /\ Bt d 8000 /\ r = .bool (decide (qv a b < qv c d))
noncomputable def bey (n : Nat) (ins : List Int) : List Nat := (List.range n).filter fun p => !decide ((p : Int) ∈ ins)
theorem mem_bey {n : Nat} {ins : List Int} {j : Nat} : j ∈ bey n ins ↔ j < n /\ (j : Int) ∉ ins := by
  unfold bey; rw [List.mem_filter, List.mem_range]; simp
noncomputable def RBeyP : List Dat -> Dat -> Prop := fun ds d => ∃ (fs : List (List Int)) (ins : List Int), ds = [stD fs, iD ins] /\ fs.length <= 1000 /\ d = iD (nI (bey fs.length ins))
structure Ins (fs : List (List Int)) (ins : List Nat) : Prop where
  lt : ∀ i ∈ ins, i < fs.length
  nd : ins.Nodup
noncomputable def Out (fs : List (List Int)) (ins : List Nat) (i j : Nat) : Prop := i ∈ ins /\ j < fs.length /\ j ∉ ins /\ ∀ i' ∈ ins, ∀ j', j' < fs.length -> j' ∉ ins -> rho fs i' j' <= rho fs i j
noncomputable def RNearB : List Dat -> (Dat -> Prop) -> Prop := fun ds C => ∃ (fs : List (List Int)) (ins : List Nat), ds = [stD fs, iD (nI ins)] /\ Sts 1000 fs /\ fs.length <= 1000 /\ Ins fs ins /\ ins ≠ [] /\ bey fs.length (nI ins) ≠ [] /\ C = fun d => ∃ i j : Nat, d = tI [(i : Int), (j : Int)] /\ Out fs ins i j
noncomputable def Pr (q : Rat) (t b : Int) : Prop := 0 < b /\ Bt t 4010 /\ Bt b 4010 /\ qv t b = q
theorem pr_betw {fs : List (List Int)} (st : Sts 1000 fs) {i j : Nat} {f g : List Int} (hi : fs[i]? = some f) (hj : fs[j]? = some g) : Pr (rho fs i j) (sop f g * sop f g) (nrm f * nrm g) := by
  have f1 := st f (List.mem_of_getElem? hi)
  have f2 := st g (List.mem_of_getElem? hj)
  have p1 := nrm_pos f1.1 f1.2.1
  have p2 := nrm_pos f2.1 f2.2.1
  have bs : Bt (sop f g) 2003 := sop_bt f1 f2
  have b1 : Bt (nrm f) 2003 := by obtain ⟨a, b, c, e, rfl⟩ := four_of f1.1; exact nrm_btG f1.2.2
  have b2 : Bt (nrm g) 2003 := by obtain ⟨a, b, c, e, rfl⟩ := four_of f2.1; exact nrm_btG f2.2.2
  refine ⟨Int.mul_pos p1 p2, (bs.mul bs).up (by decide), (b1.mul b2).up (by decide), ?_⟩
  unfold rho rq
  rw [List.getD_eq_getElem?_getD, List.getD_eq_getElem?_getD, hi, hj]; rfl
theorem rho_nn {fs : List (List Int)} (st : Sts 1000 fs) {i j : Nat} (hi : i < fs.length) (hj : j < fs.length) : 0 <= rho fs i j := by
  unfold rho
  rw [List.getD_eq_getElem?_getD, List.getD_eq_getElem?_getD, List.getElem?_eq_getElem hi, List.getElem?_eq_getElem hj]
  have f1 := st _ (List.getElem_mem hi)
  have f2 := st _ (List.getElem_mem hj)
  exact rq_nn _ _ (nrm_pos f1.1 f1.2.1) (nrm_pos f2.1 f2.2.1)
noncomputable def Bst (fs : List (List Int)) (P : Nat -> Nat -> Prop) (best most : Dat) : Prop := ∃ (t b : Int) (q : Rat), most = tI [t, b] /\ Pr q t b /\ (∀ i j, P i j -> rho fs i j <= q) /\ ((best = .none /\ q = -1 /\ ∀ i j, ¬ P i j) \/ ∃ i j : Nat, best = tI [(i : Int), (j : Int)] /\ P i j /\ q = rho fs i j)
theorem Bst.start {fs : List (List Int)} : Bst fs (fun _ _ => False) .none (tI [-1, 1]) := ⟨-1, 1, -1, rfl, ⟨by decide, by unfold Bt; decide, by unfold Bt; decide, by unfold qv; decide +kernel⟩, fun _ _ h => h.elim, .inl ⟨rfl, rfl, fun _ _ h => h⟩⟩
theorem Bst.yes {fs : List (List Int)} {P P' : Nat -> Nat -> Prop} {best most : Dat} {i j : Nat} {t b : Int} (h : Bst fs P best most) (pr : Pr (rho fs i j) t b) (hl : ∀ q, (∃ t b, most = tI [t, b] /\ Pr q t b) -> q < rho fs i j) (hp : ∀ a c, P' a c ↔ P a c \/ (a = i /\ c = j)) : Bst fs P' (tI [(i : Int), (j : Int)]) (tI [t, b]) := by
  obtain ⟨t0, b0, q, e, p0, m0, _⟩ := h
  have lt := hl q ⟨t0, b0, e, p0⟩
  refine ⟨t, b, _, rfl, pr, fun a c hac => ?_, .inr ⟨i, j, rfl, (hp i j).mpr (.inr ⟨rfl, rfl⟩), rfl⟩⟩
  rcases (hp a c).mp hac with hac | ⟨rfl, rfl⟩
  . exact Rat.le_trans (m0 a c hac) (Rat.le_of_lt lt)
  . exact Rat.le_refl
theorem Bst.no {fs : List (List Int)} {P P' : Nat -> Nat -> Prop} {best most : Dat} {i j : Nat} (h : Bst fs P best most) (nn : 0 <= rho fs i j) (hl : ∀ q, (∃ t b, most = tI [t, b] /\ Pr q t b) -> ¬ q < rho fs i j) (hp : ∀ a c, P' a c ↔ P a c \/ (a = i /\ c = j)) : Bst fs P' best most := by
  obtain ⟨t0, b0, q, e, p0, m0, h3⟩ := h
  have le := Rat.not_lt.mp (hl q ⟨t0, b0, e, p0⟩)
  refine ⟨t0, b0, q, e, p0, fun a c hac => ?_, ?_⟩
  . rcases (hp a c).mp hac with hac | ⟨rfl, rfl⟩
    . exact m0 a c hac
    . exact le
  . rcases h3 with ⟨h1, h2, h3⟩ | ⟨a, c, h1, h2, h3⟩
    . rw [h2] at le; exact absurd (Rat.le_trans nn le) (by decide)
    . exact .inr ⟨a, c, h1, (hp a c).mpr (.inl h2), h3⟩
theorem Bst.mono {fs : List (List Int)} {P P' : Nat -> Nat -> Prop} {best most : Dat} (h : Bst fs P best most) (hp : ∀ a c, P' a c ↔ P a c) : Bst fs P' best most := by
  obtain ⟨t0, b0, q, e, p0, m0, h3⟩ := h
  refine ⟨t0, b0, q, e, p0, fun a c hac => m0 a c ((hp a c).mp hac), ?_⟩
  rcases h3 with ⟨h1, h2, h3⟩ | ⟨a, c, h1, h2, h3⟩
  . exact .inl ⟨h1, h2, fun a c hac => h3 a c ((hp a c).mp hac)⟩
  . exact .inr ⟨a, c, h1, (hp a c).mpr h2, h3⟩
theorem Bst.out {fs : List (List Int)} {ins : List Nat} {best most : Dat} (h : Bst fs (fun i j => i ∈ ins /\ j ∈ bey fs.length (nI ins)) best most) (ne : ins ≠ []) (nb : bey fs.length (nI ins) ≠ []) : ∃ i j : Nat, best = tI [(i : Int), (j : Int)] /\ Out fs ins i j := by
  obtain ⟨t0, b0, q, e, p0, m0, h3⟩ := h
  rcases h3 with ⟨h1, h2, h3⟩ | ⟨a, c, h1, h2, h3⟩
  . obtain ⟨x, hx⟩ := List.exists_mem_of_ne_nil _ ne
    obtain ⟨y, hy⟩ := List.exists_mem_of_ne_nil _ nb
    exact absurd ⟨hx, hy⟩ (h3 x y)
  . have hc := mem_bey.mp h2.2
    refine ⟨a, c, h1, h2.1, hc.1, fun z => hc.2 (mem_nI.mpr z), fun i' hi' j' hj' nj' => ?_⟩
    rw [<- h3]
    exact m0 i' j' ⟨hi', mem_bey.mpr ⟨hj', fun z => nj' (mem_nI.mp z)⟩⟩
structure PathOf (fs : List (List Int)) (one other : Nat) (r : Rat) (ps : List Nat) : Prop where
  ins : Ins fs ps
  hd : ps.head? = some one
  la : ps.getLast? = some other
  st : ∀ k i j : Nat, ps[k]? = some i -> ps[k + 1]? = some j -> r <= rho fs i j
structure SplitOf (fs : List (List Int)) (one other : Nat) (r : Rat) (sp : List Nat) : Prop where
  ins : Ins fs sp
  one : one ∈ sp
  oth : other ∉ sp
  st : ∀ i ∈ sp, ∀ j, j < fs.length -> j ∉ sp -> rho fs i j <= r
noncomputable def Calm (fs : List (List Int)) (one other : Nat) (ps : List Nat) (r : Rat) (sp : List Nat) : Prop := (one = other /\ ps = [one] /\ r = 1 /\ sp = []) \/ (one ≠ other /\ PathOf fs one other r ps /\ SplitOf fs one other r sp)
noncomputable def QB (r : Rat) : Prop := Bt r.num 4010 /\ Bt (r.den : Int) 4010
noncomputable def RCalm : List Dat -> (Dat -> Prop) -> Prop := fun ds C => ∃ (fs : List (List Int)) (one other : Nat), ds = [stD fs, .int one, .int other] /\ Sts 1000 fs /\ fs.length <= 1000 /\ one < fs.length /\ other < fs.length /\ C = fun d => ∃ (ps : List Nat) (r : Rat) (sp : List Nat), d = .tuple [iD (nI ps), tI (qf r), iD (nI sp)] /\ QB r /\ Calm fs one other ps r sp
structure TreeC (kd : List (List Int × Dat)) (one : Nat) (ins : List Nat) : Prop where
  nd : ins.Nodup
  hd : ins[0]? = some one
  up : ∀ k j : Nat, 0 < k -> ins[k]? = some j -> ∃ (m i : Nat), m < k /\ ins[m]? = some i /\ lookD kd [(j : Int)] = some (.int i)
structure Bk (kd : List (List Int × Dat)) (ins : List Nat) (other m : Nat) (pl : List Nat) : Prop where
  nd : pl.Nodup
  hd : pl.head? = some other
  at_ : ∃ x, pl.getLast? = some x /\ ins[m]? = some x
  al : ∀ x ∈ pl, ∃ k, m <= k /\ ins[k]? = some x
  st : ∀ k x y : Nat, pl[k]? = some x -> pl[k + 1]? = some y -> lookD kd [(x : Int)] = some (.int y)
theorem nd_ix {l : List Nat} (h : l.Nodup) {i j : Nat} {x : Nat} (hi : l[i]? = some x) (hj : l[j]? = some x) : i = j := by
  obtain ⟨h1, e1⟩ := List.getElem?_eq_some_iff.mp hi
  obtain ⟨h2, e2⟩ := List.getElem?_eq_some_iff.mp hj
  exact (List.getElem_inj h).mp (e1.trans e2.symm)
theorem Bk.start {kd : List (List Int × Dat)} {ins : List Nat} {other m : Nat} (h : ins[m]? = some other) : Bk kd ins other m [other] :=
  ⟨by simp, rfl, ⟨other, rfl, h⟩, fun x hx => by rw [List.mem_singleton] at hx; subst hx; exact ⟨m, Nat.le_refl _, h⟩, fun k x y h1 h2 => by
    have := (List.getElem?_eq_some_iff.mp h2).1
    simp at this⟩
theorem Bk.step {kd : List (List Int × Dat)} {ins : List Nat} {one other m x : Nat} {pl : List Nat} (t : TreeC kd one ins) (h : Bk kd ins other m pl) (hx : pl.getLast? = some x) (ne : x ≠ one) : ∃ (m' y : Nat), m' < m /\ lookD kd [(x : Int)] = some (.int y) /\ Bk kd ins other m' (pl ++ [y]) := by
  obtain ⟨x', e1, e2⟩ := h.at_
  rw [hx] at e1; cases e1
  have m0 : 0 < m := by
    rcases Nat.eq_zero_or_pos m with z | z
    . rw [z, t.hd] at e2; cases e2; exact absurd rfl ne
    . exact z
  obtain ⟨m', y, g1, g2, g3⟩ := t.up m x m0 e2
  have ny : y ∉ pl := fun z => by
    obtain ⟨k, k1, k2⟩ := h.al y z
    have := nd_ix t.nd k2 g2; omega
  refine ⟨m', y, g1, g3, ?_, ?_, ⟨y, by simp, g2⟩, fun z hz => ?_, fun k a b ha hb => ?_⟩
  . rw [List.nodup_append]
    exact ⟨h.nd, by simp, fun a ha b hb => by rw [List.mem_singleton] at hb; subst hb; intro z; exact ny (z ▸ ha)⟩
  . rw [List.head?_append, h.hd]; rfl
  . rcases List.mem_append.mp hz with hz | hz
    . obtain ⟨k, k1, k2⟩ := h.al z hz; exact ⟨k, by omega, k2⟩
    . rw [List.mem_singleton] at hz; subst hz; exact ⟨m', Nat.le_refl _, g2⟩
  . by_cases hk : k + 1 < pl.length
    . rw [List.getElem?_append_left (by omega)] at ha
      rw [List.getElem?_append_left hk] at hb
      exact h.st k a b ha hb
    . have hl := (List.getElem?_eq_some_iff.mp hb).1
      rw [List.length_append, List.length_singleton] at hl
      have e : k + 1 = pl.length := by omega
      rw [List.getElem?_append_right (by omega), e, Nat.sub_self] at hb
      cases hb
      rw [List.getElem?_append_left (by omega)] at ha
      rw [List.getLast?_eq_getElem?, show pl.length - 1 = k by omega, ha] at hx
      cases hx
      exact g3
noncomputable def RTr (dc : Dct) (ds : List Dat) (C : Dat -> Prop) : Prop := ∃ (kd : List (List Int × Dat)) (ins : List Nat) (one other : Nat), dc = ⟨false, kd⟩ /\ ds = [.int one, .int other] /\ TreeC kd one ins /\ other ∈ ins /\ ins.length <= 1000 /\ C = fun d => ∃ ps : List Nat, d = iD (nI ps) /\ ps.Nodup /\ ps.head? = some one /\ ps.getLast? = some other /\ (∀ x ∈ ps, x ∈ ins) /\ ∀ k i j : Nat, ps[k]? = some i -> ps[k + 1]? = some j -> lookD kd [(j : Int)] = some (.int i)
theorem Bk.done {kd : List (List Int × Dat)} {ins : List Nat} {one other m : Nat} {pl : List Nat} (h : Bk kd ins other m pl) (hx : pl.getLast? = some one) : pl.reverse.Nodup /\ pl.reverse.head? = some one /\ pl.reverse.getLast? = some other /\ (∀ x ∈ pl.reverse, x ∈ ins) /\ ∀ k i j : Nat, pl.reverse[k]? = some i -> pl.reverse[k + 1]? = some j -> lookD kd [(j : Int)] = some (.int i) := by
  refine ⟨List.pairwise_reverse.mpr (h.nd.imp fun h => h.symm), by rw [List.head?_reverse]; exact hx, by rw [List.getLast?_reverse]; exact h.hd, fun x hx => ?_, fun k i j hi hj => ?_⟩
  . obtain ⟨k, _, e⟩ := h.al x (List.mem_reverse.mp hx); exact List.mem_of_getElem? e
  . have hl := (List.getElem?_eq_some_iff.mp hj).1
    rw [List.length_reverse] at hl
    rw [List.getElem?_reverse (by omega)] at hi hj
    refine h.st (pl.length - 1 - (k + 1)) j i hj ?_
    rw [show pl.length - 1 - (k + 1) + 1 = pl.length - 1 - k by omega]; exact hi
structure Grow (fs : List (List Int)) (one other : Nat) (kd : List (List Int × Dat)) (ins sp : List Nat) (q : Rat) : Prop where
  tr : TreeC kd one ins
  iz : Ins fs ins
  sg : Sing kd
  len : kd.length + 1 = ins.length
  key : ∀ j : Nat, j ∉ ins -> lookD kd [(j : Int)] = none
  le : ∀ (i j : Nat), lookD kd [(j : Int)] = some (.int i) -> q <= rho fs i j
  spz : (ins = [one] /\ sp = [] /\ q = 2) \/ SplitOf fs one other q sp
theorem Grow.start {fs : List (List Int)} {one other : Nat} (h : one < fs.length) : Grow fs one other [] [one] [] 2 :=
  ⟨⟨by simp, rfl, fun k j hk hj => by
    have := (List.getElem?_eq_some_iff.mp hj).1
    simp at this; omega⟩, ⟨fun i hi => by rw [List.mem_singleton] at hi; subst hi; exact h, by simp⟩, fun x hx => (by cases hx), rfl, fun j _ => rfl, fun i j h => (by cases h), .inl ⟨rfl, rfl, rfl⟩⟩
theorem look_put {kd : List (List Int × Dat)} {k : List Int} (d : Dat) (h : lookD kd k = none) : putD kd k d = kd ++ [(k, d)] := by
  unfold putD; rw [lookD_any, h]; rfl
theorem look_app {kd : List (List Int × Dat)} {k : List Int} {d : Dat} (h : lookD kd k = none) (j : List Int) : lookD (kd ++ [(k, d)]) j = if j = k then some d else lookD kd j := by
  induction kd with
  | nil =>
    unfold lookD
    rw [List.nil_append, List.find?_cons]
    by_cases e : k = j
    . rw [decide_eq_true (show (k, d).1 = j from e), if_pos e.symm]; try rfl
    . rw [decide_eq_false (show ¬ (k, d).1 = j from e), if_neg (fun z => e z.symm)]; try rfl
  | cons x r ih =>
    unfold lookD at h ih ⊢
    rw [List.find?_cons] at h
    rw [List.cons_append, List.find?_cons, List.find?_cons]
    by_cases e : x.1 = k
    . rw [decide_eq_true e] at h; cases h
    . rw [decide_eq_false e] at h
      by_cases e2 : x.1 = j
      . rw [decide_eq_true e2, if_neg (fun z => e (e2.trans z))]
      . rw [decide_eq_false e2]; exact ih h
theorem Grow.step {fs : List (List Int)} {one other : Nat} {kd : List (List Int × Dat)} {ins sp : List Nat} {q : Rat} {i j : Nat} (g : Grow fs one other kd ins sp q) (o : Out fs ins i j) (no : other ∉ ins) {q' : Rat} {sp' : List Nat} (h : (rho fs i j < q /\ q' = rho fs i j /\ sp' = ins) \/ (¬ rho fs i j < q /\ q' = q /\ sp' = sp)) (le1 : rho fs i j < 2) : Grow fs one other (putD kd [(j : Int)] (.int i)) (ins ++ [j]) sp' q' := by
  obtain ⟨o1, o2, o3, o4⟩ := o
  have kj := g.key j o3
  rw [look_put _ kj]
  have qle : q' <= q := by
    rcases h with ⟨a, b, _⟩ | ⟨_, b, _⟩
    . rw [b]; exact Rat.le_of_lt a
    . rw [b]; exact Rat.le_refl
  have qr : q' <= rho fs i j := by
    rcases h with ⟨a, b, _⟩ | ⟨a, b, _⟩
    . rw [b]; exact Rat.le_refl
    . rw [b]; exact Rat.not_lt.mp a
  have hI : ∀ a ∈ ins, ∃ m, m < ins.length /\ ins[m]? = some a := fun a ha => by
    obtain ⟨m, hm, e⟩ := List.getElem_of_mem ha
    exact ⟨m, hm, by rw [List.getElem?_eq_getElem hm, e]⟩
  refine ⟨⟨?_, ?_, fun k a hk ha => ?_⟩, ⟨fun a ha => ?_, ?_⟩, ?_, ?_, fun a ha => ?_, fun a b hab => ?_, ?_⟩
  . rw [List.nodup_append]
    exact ⟨g.tr.nd, by simp, fun a ha b hb => by rw [List.mem_singleton] at hb; subst hb; intro z; exact o3 (z ▸ ha)⟩
  . have := g.tr.hd
    rw [List.getElem?_append_left (List.getElem?_eq_some_iff.mp this).1]; exact this
  . by_cases hl : k < ins.length
    . rw [List.getElem?_append_left hl] at ha
      obtain ⟨m, b, h1, h2, h3⟩ := g.tr.up k a hk ha
      have na : ([(a : Int)] : List Int) ≠ [(j : Int)] := fun z => o3 (by
        injection z with z _
        have : a = j := by omega
        exact this ▸ List.mem_of_getElem? ha)
      exact ⟨m, b, h1, by rw [List.getElem?_append_left (by omega)]; exact h2, by rw [look_app kj, if_neg na]; exact h3⟩
    . have hk2 := (List.getElem?_eq_some_iff.mp ha).1
      rw [List.length_append, List.length_singleton] at hk2
      have e : k = ins.length := by omega
      rw [List.getElem?_append_right (by omega), e, Nat.sub_self] at ha
      cases ha
      obtain ⟨m, hm, em⟩ := hI i o1
      exact ⟨m, i, by omega, by rw [List.getElem?_append_left hm]; exact em, by rw [look_app kj, if_pos rfl]⟩
  . rcases List.mem_append.mp ha with ha | ha
    . exact g.iz.lt a ha
    . rw [List.mem_singleton] at ha; subst ha; exact o2
  . rw [List.nodup_append]
    exact ⟨g.iz.nd, by simp, fun a ha b hb => by rw [List.mem_singleton] at hb; subst hb; intro z; exact o3 (z ▸ ha)⟩
  . intro x hx
    rcases List.mem_append.mp hx with hx | hx
    . exact g.sg x hx
    . rw [List.mem_singleton] at hx; subst hx; exact ⟨_, rfl⟩
  . rw [List.length_append, List.length_append, List.length_singleton, List.length_singleton, g.len]
  . have na : a ≠ j := fun z => ha (by rw [z]; exact List.mem_append_right _ (List.mem_singleton_self _))
    rw [look_app kj, if_neg (fun z => na (by injection z with z _; omega))]
    exact g.key a fun z => ha (List.mem_append_left _ z)
  . rw [look_app kj] at hab
    by_cases e : ([(b : Int)] : List Int) = [(j : Int)]
    . rw [if_pos e] at hab
      have e1 : b = j := by injection e with z _; omega
      have e2 : i = a := by injection hab with z; injection z with z; omega
      rw [e1, <- e2]; exact qr
    . rw [if_neg e] at hab
      exact Rat.le_trans qle (g.le a b hab)
  . right
    rcases h with ⟨a, b, c⟩ | ⟨a, b, c⟩
    . rw [b, c]
      exact ⟨g.iz, List.mem_of_getElem? g.tr.hd, no, o4⟩
    . rw [b, c]
      rcases g.spz with ⟨_, _, z⟩ | z
      . rw [z] at a; exact absurd le1 a
      . exact z
theorem Grow.calm {fs : List (List Int)} {one other : Nat} {kd : List (List Int × Dat)} {ins sp ps : List Nat} {q : Rat} (g : Grow fs one other kd ins sp q) (ne : one ≠ other) (ho : other ∈ ins) (h1 : ps.Nodup) (h2 : ps.head? = some one) (h3 : ps.getLast? = some other) (h4 : ∀ x ∈ ps, x ∈ ins) (h5 : ∀ k i j : Nat, ps[k]? = some i -> ps[k + 1]? = some j -> lookD kd [(j : Int)] = some (.int i)) : Calm fs one other ps q sp := by
  refine .inr ⟨ne, ⟨⟨fun i hi => g.iz.lt i (h4 i hi), h1⟩, h2, h3, fun k i j hi hj => g.le i j (h5 k i j hi hj)⟩, ?_⟩
  rcases g.spz with ⟨z, _, _⟩ | z
  . rw [z, List.mem_singleton] at ho; exact absurd ho.symm ne
  . exact z
end D
section
namespace L2
open PySem PySem.Spec PyProof.Rows
theorem op_notInDC {X : Cx} {own : List Str} {scope : Scope} {C : Addr} {fp : List Addr} {s : Shared} {H : Hp} (hu : (cxComp X own scope C fp s H).A.units + 64 < cLine) : OpR (cxComp X own scope C fp s H) (compareOp .NotIn) (rInD X.K true) := op_notInD hu
end L2
namespace D
open PySem L2 K0 Num
open PySem.W (Dat)
theorem DC.mono {N N' : Addr -> Prop} {K : PySem.W.Frag} {H : Hp} {a : Addr} {dc : Dct} (h : DC N K H a dc) (m : ∀ a, N a -> N' a) : DC N' K H a dc := by
  obtain ⟨s, vs, h1, h2⟩ := h
  exact ⟨s, vs, h1, h2.ks, h2.vs.mono m⟩
noncomputable def spVw (K : PySem.W.Frag) (R : Dct -> List Dat -> (Dat -> Prop) -> Prop) : Sp := fun vs H Q _ => ∃ a us dc ds C, vs = V.ref a :: us /\ DC (fun _ => True) K H a dc /\ Dzs (fun _ => True) K H us ds /\ R dc ds C /\ ∀ v H' d, C d -> Same H H' -> Dz (fun b => H b = none) K H' v d -> Q v H'
section
variable {p : Option Addr} {K : PySem.W.Frag} {W : Addr -> Prop} {L : List Addr} {σ : St} {H H1 : Hp} {τ τ' : List Sl} {t1 t2 t3 : TE} {tas : TA} {v : V} {s : Sl} {t : TS} {ds : List Dat} {E' : XK}
theorem E.callVw {R : Dct -> List Dat -> (Dat -> Prop) -> Prop} {C : Dat -> Prop} {i : Nat} {o : Own} {dc : Dct} (h : τ[i]? = some (.dt o)) (ho : IsDC o dc) (ha : A1 p K tas τ (ds.map .dat)) (hr : R dc ds C) : E p K (tCall (spVw K R) [] E' (tCons (tVar i) tas)) τ (fun s => ∃ d, s = .dat d /\ C d) := fun W L σ H Q rs o q => by
  obtain ⟨a, l, g1, _⟩ := rs.get_t h
  refine ⟨_, g1, ha W L σ H _ rs o fun vs H1 ss e e1 o1 rv => ?_⟩
  subst e
  obtain ⟨a', l', g1', _, _, _, g5⟩ := (rs.ev e1 o.pw).get_t h
  rw [g1] at g1'; cases g1'
  show spVw K R ((V.ref a :: vs) ++ []) H1 Q E'
  rw [List.append_nil]
  exact ⟨a, vs, dc, ds, C, rfl, (ho _ _ _ _ _ g5).mono (fun _ _ => trivial), rv.dats.mono (fun _ _ => trivial), hr, fun v H' d c s z => q v H' _ ⟨d, rfl, c⟩ (e1.trans (Ev.of s)) (o1.same s) (z.mono fun b hb => o1.fresh hb)⟩
theorem E1.callXi {R : List Dat -> (Dat -> Prop) -> Prop} {C : Dat -> Prop} {C' : Dat -> Prop} {ss : List Sl} {i : Int} (ha : A1 p K tas τ ss) (hr : R ds C) (hC : ∀ d, C d -> ∃ es e, d = .tuple es /\ atI es i = some e /\ noL e = true /\ C' e) (hd : datsOf ss = some ds := by rfl) : E p K (tOp (rIxT K) (tCall (spX K R) [] E' tas) (tC (.int i))) τ (fun s => ∃ d, s = .dat d /\ C' d) := fun W L σ H Q rs o q =>
  ha W L σ H _ rs o fun vs H1 ss e e1 o1 rv => by
    subst e
    show spX K R (vs ++ []) H1 _ E'
    rw [List.append_nil]
    refine ⟨ds, C, rv.dz hd, hr, fun v H' d c s z => ?_⟩
    obtain ⟨es, e, rfl, he, nl, c'⟩ := hC d c
    cases z with
    | tup h1 h2 =>
      obtain ⟨x, e2, z2⟩ := atI_dz h2 he
      exact ⟨_, _, i, x, rfl, rfl, h1, e2, q x H' _ ⟨e, rfl, c'⟩ (e1.trans (Ev.of s)) (o1.same s) (z2.free nl)⟩
theorem E.tu3 {C : Dat -> Prop} {d2 d3 : Dat} (h1 : E p K t1 τ (fun s => ∃ d, s = .dat d /\ C d)) (h2 : E1 p K t2 τ (.dat d2)) (h3 : E1 p K t3 τ (.dat d3)) : E p K (tTup (tCons t1 (tCons t2 (tCons t3 tNil)))) τ (fun s => ∃ d, s = .dat d /\ ∃ d1, C d1 /\ d = .tuple [d1, d2, d3]) := fun W L σ H Q rs o q => by
  refine (A.cons (C := fun ss => ∃ d1, C d1 /\ ss = [.dat d1, .dat d2, .dat d3]) h1 (fun s _ => A1.cons h2 (A1.cons h3 A1.nil)) (fun s ss hs hss => by obtain ⟨d, rfl, c⟩ := hs; exact ⟨d, c, by rw [<- hss]⟩)) W L σ H _ rs o fun vs H1 ss hss e1 o1 rv => ?_
  obtain ⟨d1, c, rfl⟩ := hss
  refine ⟨by rw [rv.len]; show 3 <= sizeLine; decide, fun a ha => ?_⟩
  have s1 := Same.new ha (.tup vs)
  have rv' : Rvs p W K H H1 vs ([d1, d2, d3].map Sl.dat) := rv
  exact q _ _ _ ⟨_, rfl, d1, c, rfl⟩ (e1.trans (Ev.of s1)) (o1.same s1) (.tup (SqT.of upd_same) (rv'.dats.ev (W := Pp p) (Ev.of s1) o1.nw))
theorem Dzs.reverse {N : Addr -> Prop} : ∀ {us : List V} {ds : List Dat}, Dzs N K H us ds -> Dzs N K H us.reverse ds.reverse
  | _, _, .nil => .nil
  | _, _, .cons c r => by
    rw [List.reverse_cons, List.reverse_cons]
    exact (Dzs.reverse r).app (.cons c .nil)
theorem E1.listRev {ds : List Dat} (ha : A1 p K tas τ [.vw ds]) : E1 p K (tListRev K tas) τ (.own ds.reverse) := fun W L σ H Q rs o q =>
  ha W L σ H _ rs o fun vs H1 ss e e1 o1 rv => by
    subst e
    cases rv with
    | cons x t =>
      cases t
      obtain ⟨a, us, rfl, h1, h2⟩ := x
      refine ⟨a, us, rfl, h1.sq, fun l hl => ?_⟩
      have s1 := Same.new hl (.lst us.reverse)
      have hr := Dzs.reverse h2
      exact q _ _ _ rfl (e1.trans (Ev.of s1)) (o1.same s1) ⟨l, _, rfl, o1.back e1 hl, upd_same, hr.ev (W := Pp p) (Ev.of s1) o1.nw⟩
variable {P : Program} {w : World} {mg : Str -> Option Value} {base : Heap}
theorem okVw {x qual : Str} {st : Stmt} {f : Addr} {fd : FuncData} {N ps : List Str} {k : Nat} {R : Dct -> List Dat -> (Dat -> Prop) -> Prop} (F : Fun K x qual st f fd) (S0 : FnScope N ps (defScope st)) (len : ∀ dc ds C, R dc ds C -> ds.length + 1 = ps.length)
    (body : ∀ (cdv : Value) (A : Around) (outer : List Env) (s : Shared) (H : Hp) (E : XK), Room k (A.deeper (PyProof.Rows.envOfC qual (defScope st) s.heap.objs.size f cdv)) ->
      ∃ t, ZSs (cxOf CX0 P w K mg base N qual (defScope st) f cdv A outer s H E).nox (defBody st) t /\ ∀ dc ds C, R dc ds C -> S none K t (.dt (vwO dc) :: ds.map .dat ++ List.replicate (N.length - ps.length) .un) (fun _ => False) (fun s => ∃ d, C d /\ Gives d s)) : FnOk P w K mg base CX0 (k + 1) f fd ps (spVw K R) := by
  refine F.okZ S0 (fun vs H Q E h => ?_) (fun cdv A outer s H vs Q E hr h => ?_)
  . obtain ⟨a, us, dc, ds, C, rfl, _, z, r, _⟩ := h; rw [List.length_cons, z.len]; exact len dc ds C r
  . obtain ⟨a, us, dc, ds, C, rfl, hd, z, r, q⟩ := h
    obtain ⟨t, hz, hs⟩ := body cdv A outer s H E hr
    refine ⟨t, hz, ?_⟩
    have l : (V.ref a :: us).length = ps.length := by rw [List.length_cons, z.len]; exact len dc ds C r
    have r0 : Rs none (fun _ => False) K H [] (L2.start N (V.ref a :: us)) (.dt (vwO dc) :: ds.map .dat ++ List.replicate (N.length - ps.length) .un) := by
      unfold L2.start
      rw [l]
      exact Rs.dt (l := []) (L := []) (fun b hb => by cases hb) (fun b hb => by cases hb) (fun b hb => by cases hb) ⟨rfl, fun h => h, hd.mono fun _ _ h => h⟩ (rs_start _ z fun a _ h => h)
    have same : ∀ {H' : Hp}, Ev (fun _ => False) H H' -> Same H H' := fun e b o h => e.keep b o (fun z => z) h
    refine hs dc ds C r (fun _ => False) [] _ H _ r0 ⟨fun q h => (by cases h), fun a h => False.elim h⟩ (fun W' L' σ' H' τ' e ev o' al n l r' => e.elim) (fun W' H' v s e ev o' al n rv => ?_)
    obtain ⟨d, c, e⟩ := e
    cases s with
    | dat d' =>
      obtain ⟨rfl, nl⟩ := e
      exact q v H' _ c (same ev) (Dz.free rv nl)
    | own es =>
      obtain ⟨rfl, nl⟩ := e
      obtain ⟨a, vs, rfl, h1, h2, h3⟩ := rv
      exact q _ H' _ c (same ev) (.lst (.inl ⟨h1.resolve_left (fun z => by cases z), .inl h2⟩) (h3.free nl))
    | dt es => cases e
    | un => cases e
    | pu => cases e
    | vw ds => cases e
end
end D
end
section
namespace D
open PySem L2 K0 Num
open PySem.W (Dat)
theorem kq8_ints {ns : List Int} : ∀ e ∈ ns.map Dat.int, PySem.W.kqdOk 8 e = true := fun e he => by
  obtain ⟨n, _, rfl⟩ := List.mem_map.mp he; rfl
theorem mem_ints {ns : List Int} {n : Int} {r : Bool} (h : r = decide (n ∈ ns)) : r = true ↔ Dat.int n ∈ ns.map Dat.int := by
  rw [h, decide_eq_true_iff, List.mem_map]
  exact ⟨fun h => ⟨n, h, rfl⟩, fun ⟨m, h, e⟩ => by injection e with e; rw [<- e]; exact h⟩
theorem rangeD_nI (n : Nat) : rangeD 0 n = (nI (List.range n)).map .int := by
  unfold rangeD nI
  rw [List.map_map]
  refine List.map_congr_left fun i _ => ?_
  show Dat.int (0 + (i : Int)) = Dat.int (i : Int)
  rw [Int.zero_add]
theorem bey_nI (n : Nat) (ins : List Int) : (nI (List.range n)).filter (fun m => !decide (m ∈ ins)) = nI (bey n ins) := by
  unfold nI bey
  rw [List.filter_map]; rfl
theorem len_nI (l : List Nat) : (nI l).length = l.length := by unfold nI; rw [List.length_map]
theorem nI_app (l m : List Nat) : nI (l ++ m) = nI l ++ nI m := by unfold nI; rw [List.map_append]
theorem nI_rev (l : List Nat) : (nI l).reverse = nI l.reverse := by unfold nI; rw [List.map_reverse]
theorem nI_get {l : List Nat} {k : Nat} {d : Dat} (h : ((nI l).map Dat.int)[k]? = some d) : ∃ i : Nat, l[k]? = some i /\ d = .int i := by
  unfold nI at h
  rw [List.map_map, List.getElem?_map] at h
  cases e : l[k]? with
  | none => rw [e] at h; cases h
  | some i => rw [e] at h; cases h; exact ⟨i, rfl, rfl⟩
theorem atI_last {α : Type} {l : List α} {x : α} (h : l.getLast? = some x) : atI l (-1) = some x := by
  have hl : l ≠ [] := fun z => by rw [z] at h; cases h
  have hp : 0 < l.length := List.length_pos_iff.mpr hl
  rw [List.getLast?_eq_getElem?] at h
  unfold atI ixN
  rw [if_neg (by omega), if_pos (by omega)]
  show l[((-1 : Int) + l.length).toNat]? = _
  rw [show ((-1 : Int) + l.length).toNat = l.length - 1 by omega]; exact h
theorem nodup_le : ∀ (n : Nat) (l : List Nat), l.Nodup -> (∀ x ∈ l, x < n) -> l.length <= n
  | 0, l, _, h => by
    cases l with
    | nil => exact Nat.le_refl _
    | cons x r => exact absurd (h x List.mem_cons_self) (by omega)
  | n + 1, l, nd, h => by
    have ih := nodup_le n (l.erase n) (nd.erase n) fun x hx => by
      obtain ⟨a, b⟩ := (List.Nodup.mem_erase_iff nd).mp hx
      have := h x b; omega
    rw [List.length_erase] at ih
    split at ih <;> omega
theorem Ins.small {fs : List (List Int)} {ins : List Nat} (h : Ins fs ins) {o : Nat} (ho : o < fs.length) (no : o ∉ ins) : ins.length < fs.length := by
  have := nodup_le fs.length (o :: ins) (List.nodup_cons.mpr ⟨no, h.nd⟩) fun x hx => by
    rcases List.mem_cons.mp hx with rfl | hx
    . exact ho
    . exact h.lt x hx
  rw [List.length_cons] at this
  omega
theorem rq_le1 {f g : List Int} (lf : f.length = 4) (lg : g.length = 4) (h1 : 0 < nrm f) (h2 : 0 < nrm g) : rq f g <= 1 := by
  obtain ⟨a0, a1, a2, a3, rfl⟩ := four_of lf
  obtain ⟨b0, b1, b2, b3, rfl⟩ := four_of lg
  unfold rq
  have hp := Int.mul_pos h1 h2
  have hq : (1 : Rat) = qv 1 1 := by unfold qv; decide +kernel
  rw [hq]
  refine Rat.not_lt.mp fun hlt => ?_
  rw [qv_lt (by decide) hp, Int.one_mul, Int.mul_one] at hlt
  have sq : ∀ x : Int, 0 <= x * x := fun x => by
    rcases Int.le_total 0 x with h | h
    . exact Int.mul_nonneg h h
    . exact Int.mul_nonneg_of_nonpos_of_nonpos h h
  have e : nrm [a0, a1, a2, a3] * nrm [b0, b1, b2, b3] = sop [a0, a1, a2, a3] [b0, b1, b2, b3] * sop [a0, a1, a2, a3] [b0, b1, b2, b3] + ((a0 * b1 - a1 * b0) * (a0 * b1 - a1 * b0) + (a0 * b2 - a2 * b0) * (a0 * b2 - a2 * b0) + (a0 * b3 - a3 * b0) * (a0 * b3 - a3 * b0) + (a1 * b2 - a2 * b1) * (a1 * b2 - a2 * b1) + (a1 * b3 - a3 * b1) * (a1 * b3 - a3 * b1) + (a2 * b3 - a3 * b2) * (a2 * b3 - a3 * b2)) := by
    show (a0 * a0 + a1 * a1 + a2 * a2 + a3 * a3) * (b0 * b0 + b1 * b1 + b2 * b2 + b3 * b3) = (a0 * b0 + (a1 * b1 + (a2 * b2 + (a3 * b3 + 0)))) * (a0 * b0 + (a1 * b1 + (a2 * b2 + (a3 * b3 + 0)))) + _
    grind
  have h := sq (a0 * b1 - a1 * b0)
  have h := sq (a0 * b2 - a2 * b0)
  have h := sq (a0 * b3 - a3 * b0)
  have h := sq (a1 * b2 - a2 * b1)
  have h := sq (a1 * b3 - a3 * b1)
  have h := sq (a2 * b3 - a3 * b2)
  omega
theorem rho_at {fs : List (List Int)} {i j : Nat} {f g : List Int} (hi : fs[i]? = some f) (hj : fs[j]? = some g) : rho fs i j = rq f g := by
  unfold rho
  rw [List.getD_eq_getElem?_getD, List.getD_eq_getElem?_getD, hi, hj]; rfl
theorem rho_le1 {fs : List (List Int)} (st : Sts 1000 fs) {i j : Nat} (hi : i < fs.length) (hj : j < fs.length) : rho fs i j <= 1 := by
  rw [rho_at (List.getElem?_eq_getElem hi) (List.getElem?_eq_getElem hj)]
  have f1 := st _ (List.getElem_mem hi)
  have f2 := st _ (List.getElem_mem hj)
  exact rq_le1 f1.1 f2.1 (nrm_pos f1.1 f1.2.1) (nrm_pos f2.1 f2.2.1)
theorem cross_at {sp : List Nat} : ∀ {ps : List Nat} {one other : Nat}, ps.head? = some one -> ps.getLast? = some other -> one ∈ sp -> other ∉ sp -> ∃ k i j : Nat, ps[k]? = some i /\ ps[k + 1]? = some j /\ i ∈ sp /\ j ∉ sp
  | [], _, _, h, _, _, _ => by cases h
  | [x], one, other, h1, h2, a, b => by cases h1; cases h2; exact absurd a b
  | x :: y :: r, one, other, h1, h2, a, b => by
    cases h1
    by_cases hy : y ∈ sp
    . obtain ⟨k, i, j, k1, k2, k3⟩ := cross_at (ps := y :: r) (one := y) rfl (by rw [List.getLast?_cons_cons] at h2; exact h2) hy b
      exact ⟨k + 1, i, j, by simpa using k1, by simpa using k2, k3⟩
    . exact ⟨0, x, y, rfl, rfl, a, hy⟩
theorem PathOf.le {fs : List (List Int)} {one other : Nat} {r r' : Rat} {ps sp : List Nat} (p : PathOf fs one other r ps) (s : SplitOf fs one other r' sp) : r <= r' := by
  obtain ⟨k, i, j, h1, h2, h3, h4⟩ := cross_at p.hd p.la s.one s.oth
  exact Rat.le_trans (p.st k i j h1 h2) (s.st i h3 j (p.ins.lt j (List.mem_of_getElem? h2)) h4)
theorem nd_map {π : Nat -> Nat} {n : Nat} : ∀ {l : List Nat}, l.Nodup -> (∀ x ∈ l, x < n) -> (∀ x y, x < n -> y < n -> π x = π y -> x = y) -> (l.map π).Nodup
  | [], _, _, _ => by simp
  | x :: l, nd, h, inj => by
    obtain ⟨n1, n2⟩ := List.nodup_cons.mp nd
    rw [List.map_cons]
    refine List.nodup_cons.mpr ⟨fun z => ?_, nd_map n2 (fun y hy => h y (List.mem_cons_of_mem _ hy)) inj⟩
    obtain ⟨y, hy, e⟩ := List.mem_map.mp z
    exact n1 ((inj x y (h x List.mem_cons_self) (h y (List.mem_cons_of_mem _ hy)) e.symm) ▸ hy)
theorem PathOf.map {fs gs : List (List Int)} {one other : Nat} {r : Rat} {ps : List Nat} {π : Nat -> Nat} (p : PathOf fs one other r ps) (hl : ∀ x, x < fs.length -> π x < gs.length) (inj : ∀ x y, x < fs.length -> y < fs.length -> π x = π y -> x = y) (hr : ∀ x y, x < fs.length -> y < fs.length -> rho gs (π x) (π y) = rho fs x y) : PathOf gs (π one) (π other) r (ps.map π) := by
  refine ⟨⟨fun x hx => ?_, nd_map p.ins.nd p.ins.lt inj⟩, by rw [List.head?_map, p.hd]; rfl, by rw [List.getLast?_map, p.la]; rfl, fun k i j hi hj => ?_⟩
  . obtain ⟨y, hy, rfl⟩ := List.mem_map.mp hx; exact hl y (p.ins.lt y hy)
  . rw [List.getElem?_map] at hi hj
    cases e1 : ps[k]? with
    | none => rw [e1] at hi; cases hi
    | some a =>
      cases e2 : ps[k + 1]? with
      | none => rw [e2] at hj; cases hj
      | some b =>
        rw [e1] at hi; rw [e2] at hj; cases hi; cases hj
        rw [hr a b (p.ins.lt a (List.mem_of_getElem? e1)) (p.ins.lt b (List.mem_of_getElem? e2))]
        exact p.st k a b e1 e2
theorem SplitOf.map {fs gs : List (List Int)} {one other : Nat} {r : Rat} {sp : List Nat} {π : Nat -> Nat} (s : SplitOf fs one other r sp) (ho : other < fs.length) (hl : ∀ x, x < fs.length -> π x < gs.length) (inj : ∀ x y, x < fs.length -> y < fs.length -> π x = π y -> x = y) (sur : ∀ y, y < gs.length -> ∃ x, x < fs.length /\ π x = y) (hr : ∀ x y, x < fs.length -> y < fs.length -> rho gs (π x) (π y) = rho fs x y) : SplitOf gs (π one) (π other) r (sp.map π) := by
  refine ⟨⟨fun x hx => ?_, nd_map s.ins.nd s.ins.lt inj⟩, List.mem_map.mpr ⟨one, s.one, rfl⟩, fun z => ?_, fun i hi j hj nj => ?_⟩
  . obtain ⟨y, hy, rfl⟩ := List.mem_map.mp hx; exact hl y (s.ins.lt y hy)
  . obtain ⟨y, hy, e⟩ := List.mem_map.mp z
    exact s.oth ((inj y other (s.ins.lt y hy) ho e) ▸ hy)
  . obtain ⟨a, ha, rfl⟩ := List.mem_map.mp hi
    obtain ⟨b, hb, rfl⟩ := sur j hj
    rw [hr a b (s.ins.lt a ha) hb]
    exact s.st a ha b hb fun z => nj (List.mem_map.mpr ⟨b, z, rfl⟩)
theorem Calm.one {fs gs : List (List Int)} {one other : Nat} {r r' : Rat} {ps sp ps' sp' : List Nat} {π : Nat -> Nat} (c : Calm fs one other ps r sp) (c' : Calm gs (π one) (π other) ps' r' sp') (h1 : one < fs.length) (h2 : other < fs.length) (hl : ∀ x, x < fs.length -> π x < gs.length) (inj : ∀ x y, x < fs.length -> y < fs.length -> π x = π y -> x = y) (sur : ∀ y, y < gs.length -> ∃ x, x < fs.length /\ π x = y) (hr : ∀ x y, x < fs.length -> y < fs.length -> rho gs (π x) (π y) = rho fs x y) : r' = r := by
  rcases c with ⟨e, _, er, _⟩ | ⟨ne, p, s⟩
  . rcases c' with ⟨_, _, er', _⟩ | ⟨ne', _⟩
    . rw [er, er']
    . exact absurd (by rw [e]) ne'
  . rcases c' with ⟨e', _⟩ | ⟨_, p', s'⟩
    . exact absurd (inj _ _ h1 h2 e') ne
    . exact Rat.le_antisymm (p'.le (s.map h2 hl inj sur hr)) ((p.map hl inj hr).le s')
theorem rq_comm {f g : List Int} (lf : f.length = 4) (lg : g.length = 4) : rq f g = rq g f := by
  obtain ⟨a0, a1, a2, a3, rfl⟩ := four_of lf
  obtain ⟨b0, b1, b2, b3, rfl⟩ := four_of lg
  unfold rq
  have e : sop [a0, a1, a2, a3] [b0, b1, b2, b3] = sop [b0, b1, b2, b3] [a0, a1, a2, a3] := by
    show a0 * b0 + (a1 * b1 + (a2 * b2 + (a3 * b3 + 0))) = b0 * a0 + (b1 * a1 + (b2 * a2 + (b3 * a3 + 0)))
    grind
  rw [e, Int.mul_comm (nrm [a0, a1, a2, a3])]
end D
namespace D
open PySem L2 K0 Num
open PySem.W (Dat)
theorem nodup_of_sub : ∀ {l m : List Nat}, l.Nodup -> (∀ x ∈ l, x ∈ m) -> l.length <= m.length
  | [], _, _, _ => Nat.zero_le _
  | x :: l, m, nd, h => by
    obtain ⟨n1, n2⟩ := List.nodup_cons.mp nd
    have hx := h x List.mem_cons_self
    have ih := nodup_of_sub (m := m.erase x) n2 fun y hy => (List.mem_erase_of_ne (fun (z : y = x) => n1 (z ▸ hy))).mpr (h y (List.mem_cons_of_mem _ hy))
    rw [List.length_erase, if_pos hx] at ih
    have := List.length_pos_of_mem hx
    rw [List.length_cons]; omega
end D
end
section
namespace L2
open PySem PySem.Spec PyProof.Rows
noncomputable def rCatS (K : PySem.W.Frag) : R2 := fun x y H Q => ∃ l b xs zs, x = .ref l /\ y = .ref b /\ SqL K H l xs /\ SqL K H b zs /\ xs.length + zs.length <= sizeLine /\ ∀ p, H p = none -> Q (.ref p) (upd H p (.lst (xs ++ zs)))
section
variable {X : Cx}
theorem op_catS : OpR X (binaryOp .Add) (rCatS X.K) := by
  intro pins s σ H x y v u Q I rx ry h
  obtain ⟨l, b, xs, zs, rfl, rfl, hH, hB, hz, q⟩ := h
  cases (show v = Value.ref l from rx)
  cases (show u = Value.ref b from ry)
  obtain ⟨its, r, pl, z⟩ := I.list hH
  obtain ⟨its2, r2, pl2, z2⟩ := I.list hB
  obtain ⟨⟨cls, dd, data, sl⟩, ho, hc, n, hd⟩ := pl.isList
  obtain ⟨⟨cls2, dd2, data2, sl2⟩, ho2, hc2, n2, hd2⟩ := pl2.isList
  simp only at hc hd hc2 hd2
  subst hc hd hc2 hd2
  have e : its.toArray ++ its2.toArray = (its ++ its2).toArray := by simp
  have l1 := r.length
  have l2 := r2.length
  refine concat_meets ⟨_, ho, rfl⟩ ⟨_, ho2, rfl⟩ noFill_list_add seq_list_add PySem.F.slot_list_add PySem.F.entry_list_add (PySem.F.args_list_add_2 _ _) (list_addW l b its.toArray its2.toArray n n2 dd dd2 sl sl2 (by rw [List.size_toArray, List.size_toArray]; omega)) ⟨ho, ho2, ?_⟩
  rw [e]
  exact ⟨.ref _, _, I.lnew (t' := s.toks) (r.append r2) (by rw [List.length_append]; omega), rfl, q _ I.fresh⟩
end
end L2
namespace D
open PySem L2 K0 Num
open PySem.W (Dat)
section
variable {p : Option Addr} {K : PySem.W.Frag} {W : Addr -> Prop} {σ : St} {H : Hp} {τ : List Sl} {tas : TA} {v : V} {s : Sl} {u : TS} {E' : XK}
theorem E.calm1 {gs : List (List Int)} {a b : Nat} {ss : List Sl} (ha : A1 p K tas τ ss) (hd : datsOf ss = some [stD gs, .int a, .int b]) (st : Sts 1000 gs) (hn : gs.length <= 1000) (h1 : a < gs.length) (h2 : b < gs.length) : E p K (tOp (rIxT K) (tCall (spX K RCalm) [] E' tas) (tC (.int 1))) τ (fun s => ∃ d, s = .dat d /\ ∃ (ps : List Nat) (r : Rat) (sp : List Nat), d = tI (qf r) /\ QB r /\ Calm gs a b ps r sp) :=
  E1.callXi ha ⟨gs, a, b, rfl, st, hn, h1, h2, rfl⟩ (fun d ⟨ps, r, sp, e, qb, c⟩ => ⟨_, tI (qf r), e, rfl, noLs_ints _, ps, r, sp, rfl, qb, c⟩) hd
theorem E1.calm1 {gs : List (List Int)} {a b : Nat} {r : Rat} {ss : List Sl} (ha : A1 p K tas τ ss) (hd : datsOf ss = some [stD gs, .int a, .int b]) (st : Sts 1000 gs) (hn : gs.length <= 1000) (h1 : a < gs.length) (h2 : b < gs.length) (one : ∀ (ps : List Nat) (r' : Rat) (sp : List Nat), Calm gs a b ps r' sp -> r' = r) : E1 p K (tOp (rIxT K) (tCall (spX K RCalm) [] E' tas) (tC (.int 1))) τ (.dat (tI (qf r))) :=
  E.mono (E.calm1 ha hd st hn h1 h2) fun s ⟨d, e, ps, r', sp, e2, _, c⟩ => by rw [e, e2, one ps r' sp c]
theorem Calm.same {fs gs : List (List Int)} {one other : Nat} {r r' : Rat} {ps sp ps' sp' : List Nat} (c : Calm fs one other ps r sp) (c' : Calm gs one other ps' r' sp') (h1 : one < fs.length) (h2 : other < fs.length) (hl : gs.length = fs.length) (hr : ∀ x y, x < fs.length -> y < fs.length -> rho gs x y = rho fs x y) : r' = r :=
  Calm.one (π := id) c c' h1 h2 (fun x hx => by rw [hl]; exact hx) (fun _ _ _ _ h => h) (fun y hy => ⟨y, by rw [<- hl]; exact hy, rfl⟩) hr
end
end D
end
section
namespace D
open PySem L2 K0 Num
open PySem.W (Dat)
noncomputable def QB8 (q : Rat) : Prop := Bt q.num 8000 /\ Bt (q.den : Int) 8000
noncomputable def RStepQ : List Dat -> Dat -> Prop := fun ds d => ∃ (fs : List (List Int)) (i j : Nat), ds = [stD fs, .int i, .int j] /\ Sts 200 fs /\ i < fs.length /\ j < fs.length /\ d = tI (qf (rho fs i j))
theorem qb_rho {fs : List (List Int)} (st : Sts 1000 fs) {i j : Nat} (hi : i < fs.length) (hj : j < fs.length) : QB (rho fs i j) := by
  obtain ⟨p1, p2, p3, p4⟩ := pr_betw st (List.getElem?_eq_getElem hi) (List.getElem?_eq_getElem hj)
  have er : ∀ {t b : Int}, 0 < b -> red [t, b] = qf (qv t b) := fun h => by rw [<- fr_qf h]; rfl
  rw [<- p4]
  have rl := red_le (m := 2 ^ 4010) (ns := [sop fs[i] fs[j] * sop fs[i] fs[j], nrm fs[i] * nrm fs[j]]) (fun k hk => by
    simp only [List.mem_cons, List.mem_nil_iff, or_false] at hk
    rcases hk with rfl | rfl
    . exact p2
    . exact p3)
  rw [er p1] at rl
  exact ⟨rl _ (List.mem_cons_self), rl _ (List.mem_cons_of_mem _ (List.mem_cons_self))⟩
theorem QB.q8 {q : Rat} (h : QB q) : QB8 q := ⟨h.1.up (by decide), h.2.up (by decide)⟩
theorem qpos (x : Rat) : 0 < (x.den : Int) := by have := x.den_pos; omega
theorem rless {p q : Rat} (hp : QB8 p) (hq : QB8 q) : RLess [tI (qf p), tI (qf q)] (.bool (decide (p < q))) :=
  ⟨p.num, p.den, q.num, q.den, rfl, qpos p, qpos q, hp.1, hp.2, hq.1, hq.2, by rw [qf_val, qf_val]⟩
theorem take_snoc {α : Type} {l : List α} {k : Nat} {x : α} (h : l[k]? = some x) : l.take (k + 1) = l.take k ++ [x] := by rw [List.take_add_one, h]; rfl
end D
namespace D
open PySem L2 K0 Num
open PySem.W (Dat)
end D
namespace D
open PySem L2 K0 Num
open PySem.W (Dat)
end D
end
namespace D
open PySem L2 K0 Num
open PySem.W (Dat)
section
noncomputable def RStandsT : List Dat -> (Dat -> Prop) -> Prop := fun ds C => ∃ most : Int, ds = [.int most] /\ 1 <= most /\ most <= 10 /\ C = fun d => ∃ fs : List (List Int), d = stD fs /\ 1 <= fs.length /\ (fs.length : Int) <= most /\ Sts 100 fs
noncomputable def Own.Free (o : Own) : Prop := ∀ (N N' : Addr -> Prop) (K : PySem.W.Frag) (H : Hp) (a : Addr) (l : List Addr), o.R N K H a l -> o.R N' K H a l
theorem Own.Free.self {o : Own} (h : o.Free) : o.Self := fun N K H a l z => h _ _ K H a l z
noncomputable def Own.Reads (o : Own) (d : Dat) : Prop := ∀ (N : Addr -> Prop) (K : PySem.W.Frag) (H : Hp) (a : Addr) (l : List Addr), o.R N K H a l -> Dz (fun _ => True) K H (.ref a) d
noncomputable def spO (K : PySem.W.Frag) (R : List Dat -> (Own -> Prop) -> Prop) : Sp := fun vs H Q _ => ∃ ds C, Dzs (fun _ => True) K H vs ds /\ R ds C /\ ∀ a H' o l, C o -> Same H H' -> (∀ b, b ∈ l -> H b = none) -> o.R (fun _ => True) K H' a l -> Q (.ref a) H'
section
variable {p : Option Addr} {K : PySem.W.Frag} {W : Addr -> Prop} {L : List Addr} {σ : St} {H H1 : Hp} {τ τ' : List Sl} {tas : TA} {v : V} {s : Sl} {t u : TS} {ds : List Dat} {E' : XK} {o : Own}
theorem E.callO {R : List Dat -> (Own -> Prop) -> Prop} {C : Own -> Prop} {ss : List Sl} (ha : A1 p K tas τ ss) (hr : R ds C) (hf : ∀ o, C o -> o.Free) (hd : datsOf ss = some ds := by rfl) : E p K (tCall (spO K R) [] E' tas) τ (fun s => ∃ o, s = .dt o /\ o.Self /\ C o) := fun W L σ H Q rs o q => ha W L σ H _ rs o fun vs H1 ss e e1 o1 rv => by
  subst e
  show spO K R (vs ++ []) H1 Q E'
  rw [List.append_nil]
  exact ⟨ds, C, rv.dz hd, hr, fun a H' ot l c s hl z => q _ H' _ ⟨ot, rfl, (hf ot c).self, c⟩ (e1.trans (Ev.of s)) (o1.same s) ⟨a, l, rfl, fun b hb => o1.back e1 (hl b hb), hf ot c _ _ _ _ _ _ z⟩⟩
theorem upd_any {x b : Addr} {u : HO} (hx : W x) (o : Ok p W H) : ∃ y, upd H b u x = some y := by
  by_cases z : x = b
  . subst z; exact ⟨_, upd_same⟩
  . obtain ⟨y, hy⟩ := o.al x hx; exact ⟨y, by rw [upd_ne z]; exact hy⟩
variable {P : Program} {w : World} {mg : Str -> Option Value} {base : Heap}
theorem okO {x qual : Str} {st : Stmt} {f : Addr} {fd : FuncData} {N ps : List Str} {k : Nat} {R : List Dat -> (Own -> Prop) -> Prop} (F : Fun K x qual st f fd) (S0 : FnScope N ps (defScope st)) (len : ∀ ds C, R ds C -> ds.length = ps.length)
    (body : ∀ (cdv : Value) (A : Around) (outer : List Env) (s : Shared) (H : Hp) (E : XK), Room k (A.deeper (PyProof.Rows.envOfC qual (defScope st) s.heap.objs.size f cdv)) ->
      ∃ t, ZSs (cxOf CX0 P w K mg base N qual (defScope st) f cdv A outer s H E).nox (defBody st) t /\ ∀ ds C, R ds C -> S none K t (ds.map .dat ++ List.replicate (N.length - ps.length) .un) (fun _ => False) (fun s => ∃ o, s = .dt o /\ C o /\ o.Free)) : FnOk P w K mg base CX0 (k + 1) f fd ps (spO K R) := by
  refine F.okZ S0 (fun vs H Q E h => ?_) (fun cdv A outer s H vs Q E hr h => ?_)
  . obtain ⟨ds, C, z, r, _⟩ := h; rw [z.len]; exact len ds C r
  . obtain ⟨ds, C, z, r, q⟩ := h
    obtain ⟨t, hz, hs⟩ := body cdv A outer s H E hr
    refine ⟨t, hz, ?_⟩
    have l : vs.length = ps.length := by rw [z.len]; exact len ds C r
    have r0 : Rs none (fun _ => False) K H [] (L2.start N vs) (ds.map .dat ++ List.replicate (N.length - ps.length) .un) := by
      unfold L2.start
      rw [l]
      exact rs_start _ z fun a _ h => h
    have same : ∀ {H' : Hp}, Ev (fun _ => False) H H' -> Same H H' := fun e b o h => e.keep b o (fun z => z) h
    refine hs ds C r (fun _ => False) [] _ H _ r0 ⟨fun q h => (by cases h), fun a h => False.elim h⟩ (fun W' L' σ' H' τ' e ev o' al n l r' => e.elim) (fun W' H' v s e ev o' al n rv => ?_)
    obtain ⟨ot, rfl, c, fr⟩ := e
    obtain ⟨a, l, rfl, h1, h2⟩ := rv
    exact q a H' ot l c (same ev) (fun b hb => (h1 b hb).resolve_left (fun z => by cases z)) (fr _ _ _ _ _ _ h2)
end
end
end D
section
namespace D
open PySem L2 K0 Num
open PySem.W (Dat)
section
variable {p : Option Addr} {K : PySem.W.Frag} {W : Addr -> Prop} {L : List Addr} {σ : St} {H H1 H2 : Hp} {τ : List Sl} {ta tb : TE}
theorem E1.catVV {xs ys : List Dat} (ha : E1 p K ta τ (.vw xs)) (hb : E1 p K tb τ (.vw ys)) (hz : xs.length + ys.length <= sizeLine) : E1 p K (tOp (rCatS K) ta tb) τ (.own (xs ++ ys)) := fun W L σ H Q rs o q =>
  ha W L σ H _ rs o fun x H1 s e e1 o1 rv1 => hb W L σ H1 _ (rs.ev e1 o.pw) o1 fun y H2 t e' e2 o2 rv2 => by
    subst e e'
    obtain ⟨a, vs, rfl, h1, h2⟩ := rv1.ev e2 o1 o
    obtain ⟨b, us, rfl, h3, h5⟩ := rv2
    refine ⟨a, b, vs, us, rfl, rfl, h1.sq, h3.sq, by rw [h2.len, h5.len]; exact hz, fun l hl => ?_⟩
    have s := Same.new hl (.lst (vs ++ us))
    have e12 := e1.trans e2
    exact q _ _ _ rfl (e12.trans (Ev.of s)) (o2.same s) ⟨l, _, rfl, o2.back e12 hl, upd_same, (h2.app h5).ev (W := Pp p) (Ev.of s) o2.nw⟩
end
theorem nI_nd {l : List Nat} (h : l.Nodup) : (nI l).Nodup := by
  induction l with
  | nil => simp [nI]
  | cons x l ih =>
    obtain ⟨n1, n2⟩ := List.nodup_cons.mp h
    show ((x : Int) :: nI l).Nodup
    exact List.nodup_cons.mpr ⟨fun z => n1 (mem_nI.mp z), ih n2⟩
end D
namespace D
open PySem L2 K0 Num
open PySem.W (Dat)
end D
end
section
namespace L2
open PySem PySem.Spec PyProof.Rows
noncomputable def rAny (K : PySem.W.Frag) : List V -> Hp -> VK -> Prop := fun xs H Q => ∃ (a : Addr) (bs : List Bool), xs = [.ref a] /\ SqL K H a (bs.map V.bl) /\ Q (.bl (bs.any id)) H
theorem range_any' : ∀ (bs : List Bool), ((List.range bs.length).any fun i => (bs[i]?).getD false) = bs.any id := by
  intro bs
  rw [Bool.eq_iff_iff]
  simp only [List.any_eq_true, List.mem_range, id]
  constructor
  . rintro ⟨i, hi, h⟩
    rw [List.getElem?_eq_getElem hi] at h
    exact ⟨_, List.getElem_mem hi, h⟩
  . rintro ⟨b, hb, h⟩
    obtain ⟨i, hi, rfl⟩ := List.getElem_of_mem hb
    exact ⟨i, hi, by rw [List.getElem?_eq_getElem hi]; exact h⟩
noncomputable def rSortI (K : PySem.W.Frag) : List V -> Hp -> VK -> Prop := fun xs H Q => ∃ (p : Addr) (ns : List Int), xs = [.ref p] /\ SqL K H p (ns.map V.int) /\ ns.length < 64 /\ ∀ (l : Addr) (ns' : List Int), H l = none -> ns'.Perm ns -> ns'.Pairwise (· <= ·) -> Q (.ref l) (upd H l (.lst (ns'.map V.int)))
section
variable {X : Cx} {o e : Expr} {to te : TE} {apos cpos : Pos}
theorem call_anyL (hc : X.calm = true) : CallR X (.builtin "any") (rAny X.K) := by
  intro pins s σ H xs us Q I r h
  obtain ⟨a, bs, rfl, hl, q⟩ := h
  cases r with
  | cons r1 r2 =>
    cases r2
    cases (show _ = Value.ref a from r1)
    obtain ⟨its, rv, pl, _⟩ := I.list hl
    have hi := pl.isList
    have hlt : a < s.heap.objs.size := by obtain ⟨_, e, _⟩ := hi; exact Heap.lt_size e
    have hlen : its.length = bs.length := by have := rv.length; simpa using this.symm
    refine call_any_walk (wpAny_pyIter_list hi ?_)
    refine ⟨s.heap.objs.size, [s.heap.objs.size, a], [s.heap.objs.size], its.toArray.size, _, _, fun i => (bs[i]?).getD false, rfl, Walks.list (A := X.A.in1) (I.ok.hd hc) _ a (Nat.ne_of_lt hlt) its.toArray,
      ⟨⟨_, Heap.get?_push_size _ rfl, rfl, rfl⟩, hi.push _⟩, fun i v s' Q' E' hP hQ => ?_, fun h' tk hk => ?_⟩
    . have hP : its[i]? = some v := by simpa using hP
      have hb : i < bs.length := by have := (List.getElem?_eq_some_iff.mp hP).1; omega
      obtain ⟨u, hu, ru⟩ := rv.get (x := .bl bs[i]) (i := i) (by rw [List.getElem?_map, List.getElem?_eq_getElem hb]; rfl)
      rw [hP] at hu
      cases hu
      cases (show v = Value.bool bs[i] from ru)
      simp only [List.getElem?_eq_getElem hb, Option.getD_some] at hQ
      exact wpAny_truthy_bool hQ
    . have e : ((List.range its.toArray.size).any fun i => (bs[i]?).getD false) = bs.any id := by
        rw [List.size_toArray, hlen]; exact range_any' bs
      rw [e]
      exact ⟨.bl _, H, I.kept (t' := tk) fun b x e => hk b x (fun hm => by rw [List.mem_singleton.mp hm] at e; exact Nat.lt_irrefl _ (Heap.lt_size e)) (Heap.get?_push_of_some _ e), rfl, q⟩
theorem vals_of_ints : ∀ {vs : List Value} {ns : List Int}, IntsAre vs ns -> Vals (ns.map V.int) vs
  | _, _, .nil => .nil
  | _, _, .cons n t r => .cons ⟨t, rfl⟩ (vals_of_ints r)
theorem call_sortedI : CallR X (.builtin "sorted") (rSortI X.K) := by
  intro pins s σ H xs us Q I r h
  obtain ⟨p, ns, rfl, hq, h64, q⟩ := h
  obtain ⟨u, rfl, rx⟩ := vals1 r
  cases rx
  obtain ⟨its, rv, pl, hz⟩ := I.list hq
  have hl := rv.length
  rw [List.length_map] at hl hz
  refine sorted_ints (vs := its) (ns := ns) pl.isList (intsAre_of rv) (by omega) fun out ns' a1 a2 a3 => ?_
  obtain ⟨e, he⟩ := sortedAll_at s.heap its out
  have hl' := a2.length_eq
  refine ⟨.ref _, _, I.laid (t' := s.toks) (fun b o e => sortedAll_old e) (Nat.le_succ _) (show ObjOk X.prog X.w _ (sortedAll s.heap its out) _ (.lst (ns'.map V.int)) from ⟨by rw [List.length_map]; omega, out.toList, e, vals_of_ints a1, he⟩), rfl, q _ ns' (I.hok.fresh (Nat.le_succ _)) a2 a3⟩
theorem ze_pop (ho : ZE X o to) (hbase : attributeBase o "pop" X.env (eval o X.env) = eval o X.env := by rfl) (hline : (apos.endLine == cpos.line) = true := by rfl) : ZE X (.Call (.Attribute o "pop" apos) [] [] cpos) (tBM0 X.K "list" rPop to) :=
  ⟨pe_bm0 PySem.F.plainAttrs_list PySem.F.slot_list_pop (by rfl) (fun pins s σ H x xs v us Q => mt_pop pins s σ H x xs v us Q) ho.out hbase hline⟩
theorem ze_extend (ho : ZE X o to) (ha : ZE X e te) (hbase : attributeBase o "extend" X.env (eval o X.env) = eval o X.env := by rfl)
    (hfew : ((backTo cpos (starEach [e] X.env)).all (fun x => !x.1) && (backToKw cpos (keywordEach [] X.env)).all (fun x => x.1.isSome)
      && decide ([e].length + ([] : List Keyword).length + (if ([] : List Keyword).isEmpty then 0 else 1) < 30)) = true := by rfl)
    (hline : (apos.endLine == cpos.line) = true := by rfl) (hs : starEach [e] X.env = (false, eval e X.env) :: starEach [] X.env := by rfl) :
    ZE X (.Call (.Attribute o "extend" apos) [e] [] cpos) (tBM X.K "list" rExtend to (tCons te tNil)) :=
  ⟨pe_bm PySem.F.plainAttrs_list F.slot_list_extend (by rfl) mt_extend ho.out (pa_cons ha.out pa_nil hs) hbase hfew hline hs⟩
end
end L2
namespace D
open PySem L2 K0 Num
open PySem.W (Dat)
inductive Nst (N : Addr -> Prop) (K : PySem.W.Frag) (H : Hp) : List Addr -> List (List Dat) -> Prop
  | nil : Nst N K H [] []
  | cons {b : Addr} {bs : List Addr} {vs : List V} {xs : List Dat} {xss : List (List Dat)} : H b = some (.lst vs) -> Dzs N K H vs xs -> Nst N K H bs xss -> Nst N K H (b :: bs) (xs :: xss)
section
variable {N N' W : Addr -> Prop} {K : PySem.W.Frag} {H H' : Hp} {bs : List Addr} {xss : List (List Dat)}
theorem Nst.ev (h : Nst N K H bs xss) (ev : Ev W H H') (nw : ∀ a, N a -> ¬ W a) : (∀ b o, b ∈ bs -> H b = some o -> H' b = some o) -> Nst N K H' bs xss := by
  induction h with
  | nil => intro _; exact .nil
  | cons h1 h2 _ ih => intro hl; exact .cons (hl _ _ List.mem_cons_self h1) (h2.ev ev nw) (ih fun b o hb => hl b o (List.mem_cons_of_mem _ hb))
theorem Nst.wide (h : Nst N K H bs xss) (n : ∀ a o, N a -> H a = some o -> N' a) : Nst N' K H bs xss := by
  induction h with
  | nil => exact .nil
  | cons h1 h2 _ ih => exact .cons h1 (h2.widen n) ih
theorem Nst.al (h : Nst N K H bs xss) : ∀ b, b ∈ bs -> ∃ o, H b = some o := by
  induction h with
  | nil => intro b hb; cases hb
  | cons h1 h2 _ ih =>
    intro b hb
    rcases List.mem_cons.mp hb with rfl | hb
    . exact ⟨_, h1⟩
    . exact ih b hb
theorem Nst.len (h : Nst N K H bs xss) : bs.length = xss.length := by
  induction h with
  | nil => rfl
  | cons _ _ _ ih => rw [List.length_cons, List.length_cons, ih]
theorem Nst.snoc {b : Addr} {vs : List V} {xs : List Dat} (h : Nst N K H bs xss) (h1 : H b = some (.lst vs)) (h2 : Dzs N K H vs xs) : Nst N K H (bs ++ [b]) (xss ++ [xs]) := by
  induction h with
  | nil => exact .cons h1 h2 .nil
  | cons g1 g2 _ ih => exact .cons g1 g2 ih
theorem Nst.free (h : Nst N K H bs xss) : (∀ xs ∈ xss, noLs xs = true) -> Nst N' K H bs xss := by
  induction h with
  | nil => intro _; exact .nil
  | cons h1 h2 _ ih => intro n; exact .cons h1 (h2.free (n _ List.mem_cons_self)) (ih fun xs hx => n xs (List.mem_cons_of_mem _ hx))
theorem Nst.get (h : Nst N K H bs xss) : ∀ {i : Nat} {xs : List Dat}, xss[i]? = some xs -> ∃ b vs, bs[i]? = some b /\ H b = some (.lst vs) /\ Dzs N K H vs xs := by
  induction h with
  | nil => intro i xs h; simp at h
  | cons h1 h2 _ ih =>
    intro i xs h
    match i, h with
    | 0, h => simp at h; subst h; exact ⟨_, _, rfl, h1, h2⟩
    | i + 1, h => exact ih (i := i) (by simpa using h)
end
noncomputable def nestO (xss : List (List Dat)) : Own where
  R N K H a l := ∃ bs : List Addr, l = a :: bs /\ (a :: bs).Nodup /\ H a = some (.lst (bs.map V.ref)) /\ Nst N K H bs xss
  ev := fun ⟨bs, e, nd, h, z⟩ ev nw hl => ⟨bs, e, nd, hl _ _ (by rw [e]; exact List.mem_cons_self) h, z.ev ev nw fun b o hb => hl b o (by rw [e]; exact List.mem_cons_of_mem _ hb)⟩
  wide := fun ⟨bs, e, nd, h, z⟩ n => ⟨bs, e, nd, h, z.wide n⟩
  al := fun ⟨bs, e, nd, h, z⟩ x hx => by
    rw [e] at hx
    rcases List.mem_cons.mp hx with rfl | hx
    . exact ⟨_, h⟩
    . exact z.al x hx
theorem nestO_free {xss : List (List Dat)} (n : ∀ xs ∈ xss, noLs xs = true) : (nestO xss).Free := fun N N' K H a l ⟨bs, e, nd, h, z⟩ => ⟨bs, e, nd, h, z.free n⟩
section
variable {p : Option Addr} {K : PySem.W.Frag} {W : Addr -> Prop} {L : List Addr} {σ : St} {H H1 H2 : Hp} {τ : List Sl} {te : TE} {v : V} {s : Sl} {nx : List Sl -> Prop} {rt : Sl -> Prop} {t u : TS} {E' : XK} {o : Own}
theorem E1.nestNil : E1 p K (tLst tNil) τ (.dt (nestO [])) := fun W L σ H Q r o q => ⟨Nat.zero_le _, fun a ha => by
  have s1 := Same.new ha (.lst [])
  exact q _ _ _ rfl (Ev.of s1) (o.same s1) ⟨a, [a], rfl, fun b hb => by rw [List.mem_singleton] at hb; subst hb; exact ha, [], rfl, by simp, upd_same, .nil⟩⟩
theorem S.nestApp {i : Nat} {xss : List (List Dat)} {C : List Dat -> Prop} (h : τ[i]? = some (.dt (nestO xss))) (hn : ∀ xs ∈ xss, noLs xs = true) (he : E p K te τ (fun s => ∃ xs, s = .own xs /\ noLs xs = true /\ C xs)) (hz : xss.length < sizeLine) (m : ∀ xs, C xs -> nx (τ.set i (.dt (nestO (xss ++ [xs]))))) : S p K (tDrop (tBM K "list" rAppend (tVar i) (tCons te tNil))) τ nx rt := fun W L σ H D r o q1 q2 => by
  obtain ⟨a0, l0, f1, f2, f3, f4, bs0, e0, nd0, h0, z0⟩ := r.get_t h
  refine ⟨_, f1, .inl ⟨rfl, _, SqL.of h0⟩, ?_⟩
  refine he W L σ H _ r o fun v H1 s ⟨xs, es, nl, c⟩ ev o1 rv => ?_
  subst es
  obtain ⟨b, vs, rfl, g1, g2, g3⟩ := rv
  obtain ⟨a, l, k1, k2, k3, k4, ⟨bs, e1, nd, h1, z1⟩, fin⟩ := r.finN o ev o1 [b] (fun x hx => by rw [List.mem_singleton] at hx; subst hx; exact g1) h
  rw [f1] at k1; cases k1
  subst e1
  have nb : b ∉ a0 :: bs := fun z => k4 b z (List.mem_singleton_self _)
  have nab : b ≠ a0 := fun z => nb (z ▸ List.mem_cons_self)
  have wl : ∀ x, x ∈ a0 :: bs -> W x := fun x hx => (k2 x hx).resolve_right (k4 x hx)
  refine ⟨a0, bs.map V.ref, .ref b, rfl, rfl, h1, by rw [List.length_map, z1.len]; exact hz, ?_⟩
  have ev2 : Ev (fun x => x = a0) H1 (upd H1 a0 (.lst (bs.map V.ref ++ [.ref b]))) := ⟨fun x o n h => by rw [upd_ne n]; exact h, Tm.lst h1 _⟩
  have za : Nst (fun _ => False) K (upd H1 a0 (.lst (bs.map V.ref ++ [.ref b]))) bs xss := (z1.free hn).ev ev2 (fun _ h => h.elim) fun x u hx hu => by
    rw [upd_ne (fun (z : x = a0) => (List.nodup_cons.mp nd).1 (z ▸ hx))]; exact hu
  have gb : Dzs (fun _ => False) K (upd H1 a0 (.lst (bs.map V.ref ++ [.ref b]))) vs xs := (g3.free nl).ev ev2 fun _ h => h.elim
  have zs := za.snoc (by rw [upd_ne nab]; exact g2) gb
  have hn' : ∀ ys ∈ xss ++ [xs], noLs ys = true := fun ys hy => by
    rcases List.mem_append.mp hy with hy | hy
    . exact hn ys hy
    . rw [List.mem_singleton] at hy; subst hy; exact nl
  have nd' : (a0 :: (bs ++ [b])).Nodup := by
    obtain ⟨d1, d2⟩ := List.nodup_cons.mp nd
    refine List.nodup_cons.mpr ⟨fun z => ?_, ?_⟩
    . rcases List.mem_append.mp z with z | z
      . exact d1 z
      . rw [List.mem_singleton] at z; exact nab z.symm
    . rw [List.nodup_append]
      exact ⟨d2, by simp, fun x hx y hy => by rw [List.mem_singleton] at hy; subst hy; intro z; exact nb (z ▸ List.mem_cons_of_mem _ hx)⟩
  have sub : ∀ x, x ∈ a0 :: (bs ++ [b]) -> x ∈ a0 :: bs \/ x ∈ [b] \/ H1 x = none := fun x hx => by
    rcases List.mem_cons.mp hx with rfl | hx
    . exact .inl List.mem_cons_self
    . rcases List.mem_append.mp hx with hx | hx
      . exact .inl (List.mem_cons_of_mem _ hx)
      . exact .inr (.inl hx)
  obtain ⟨m1, m2, m3, m4, L', m5, m6, m7⟩ := fin (fun x => W x \/ x ∈ a0 :: (bs ++ [b])) _ (a0 :: (bs ++ [b])) (nestO (xss ++ [xs])) (fun x => Iff.rfl) (fun x hx => List.mem_cons_of_mem _ (List.mem_append_right _ hx)) sub (ev2.mono fun x hx => by rw [hx]; exact List.mem_cons_self) (fun x hx => upd_any (wl x hx) o1)
    ⟨bs ++ [b], rfl, nd', by rw [upd_same, List.map_append]; rfl, zs.free hn'⟩
  exact q1 _ L' σ _ _ (m xs c) m1 m2 m3 m4 m5 m7
theorem S.retT {i : Nat} (h : τ[i]? = some (.dt o)) (m : rt (.dt o)) : S p K (tRet (tVar i)) τ nx rt := fun W L σ H D r ok q1 q2 => by
  obtain ⟨a, l, g1, g2, g3, g4, g5⟩ := r.get_t h
  exact ⟨_, g1, q2 W H _ _ m Ev.refl ok ok.al (fun _ h => .inl h) ⟨a, l, rfl, fun b hb => .inl (g4 b hb), g5⟩⟩
theorem E1.anyIn {i j : Nat} {xss : List (List Int)} {n : Int} (h : τ[i]? = some (.dt (nestO (xss.map fun xs => xs.map .int)))) (hj : τ[j]? = some (.dat (.int n))) (hz : xss.length <= 1000) : E1 p K (tCB (rAny K) (tCons (tCompB 1 (iList K (tVar i)) (gName 0) tAll (tOp (rInD K false) (tVar (j + 1)) (tVar 0))) tNil)) τ (.dat (.bool (xss.any fun xs => decide (n ∈ xs)))) := fun W L σ H Q r o q => by
  obtain ⟨a, l, g1, g2, g3, g4, bs, e1, nd, h1, z1⟩ := r.get_t h
  obtain ⟨vj, gj, zj⟩ := r.get_dat hj
  cases zj
  refine ⟨_, g1, a, rfl, ⟨_, SqL.of h1⟩, fun D hD => ?_⟩
  have lb := z1.len
  rw [List.length_map] at lb
  refine ⟨fun k m σ' H' => m = xss.length - k /\ k <= xss.length /\ (∃ o, σ' = o :: σ) /\ (∀ x u, H x = some u -> H' x = some u) /\ H' D = some (.lst ((xss.take k).map fun xs => V.bl (decide (n ∈ xs)))), ⟨xss.length, by omega, Nat.zero_le _, ⟨none, rfl⟩, fun x u hx => by rw [upd_ne (ne_of_none hx hD)]; exact hx, upd_same⟩, ?_⟩
  rintro k m σ' H' ⟨rfl, hk, ⟨ov, rfl⟩, kp, hv⟩
  by_cases hlt : k < xss.length
  . have hx : xss[k]? = some xss[k] := List.getElem?_eq_getElem hlt
    obtain ⟨b, vs, hb, hbv, zb⟩ := z1.get (i := k) (xs := xss[k].map .int) (by rw [List.getElem?_map, hx]; rfl)
    have hbr : (bs.map V.ref)[k]? = some (V.ref b) := by rw [List.getElem?_map, hb]; rfl
    refine .inr ⟨⟨_, _, SqL.of (kp _ _ h1), hbr⟩, fun y H2 ⟨ey, qy⟩ => ?_⟩
    subst ey
    have := qy _ (SqL.of (kp _ _ h1))
    rw [hbr] at this; cases this
    dsimp only [gName, tAll]
    rw [if_pos rfl]
    have nDb : ∀ x u, H x = some u -> x ≠ D := fun x u hx => ne_of_none hx hD
    refine ⟨V.int n, by simpa using gj, .ref b, rfl, .int n, (xss[k]).map .int, decide (n ∈ xss[k]), .int n, .lst (SqL.of (kp _ _ hbv)) ?_, rfl, kq8_ints, mem_ints rfl, _, hv, ?_, xss.length - (k + 1), by omega, rfl, hlt, ⟨_, rfl⟩, fun x u hx => ?_, ?_⟩
    . have ez := zb.inv
      rw [ez]; exact Dzs.is (N := fun _ => True) (Dzs.ints _)
    . rw [List.length_map, List.length_take]; exact Nat.lt_of_le_of_lt (show min k xss.length <= 1000 by omega) (by decide)
    . rw [upd_ne (nDb x u hx)]; exact kp x u hx
    . rw [upd_same, take_snoc hx, List.map_append]; rfl
  . have e : k = xss.length := by omega
    subst e
    rw [List.take_length] at hv
    refine .inl ⟨⟨_, SqL.of (kp _ _ h1), by rw [List.length_map, lb]; exact Nat.le_refl _⟩, ?_⟩
    have sm : Same H H' := fun x u hx => kp x u hx
    have eq : (xss.map fun xs => decide (n ∈ xs)).any id = xss.any fun xs => decide (n ∈ xs) := by rw [List.any_map]; rfl
    refine ⟨D, xss.map fun xs => decide (n ∈ xs), rfl, SqL.of (by rw [hv, List.map_map]; rfl), ?_⟩
    rw [eq]
    exact q _ H' _ rfl (Ev.of sm) (o.same sm) (.bool _)
end
end D
end
namespace D
open PySem L2 K0 Num
open PySem.W (Dat)
section
section
variable {p : Option Addr} {K : PySem.W.Frag} {W : Addr -> Prop} {L : List Addr} {σ : St} {H H1 : Hp} {τ τ' : List Sl} {tas : TA} {v : V} {s : Sl} {nx : List Sl -> Prop} {rt : Sl -> Prop} {t u : TS} {ds : List Dat} {o : Own}
theorem Dzs.snoc_inv {N : Addr -> Prop} : ∀ {vs : List V} {ds : List Dat} {d : Dat}, Dzs N K H vs (ds ++ [d]) -> ∃ us v, vs = us ++ [v] /\ Dzs N K H us ds /\ Dz N K H v d
  | _, [], _, h => by
    cases h with
    | cons a r => cases r; exact ⟨[], _, rfl, .nil, a⟩
  | _, e :: ds, _, h => by
    cases h with
    | cons a r =>
      obtain ⟨us, v, rfl, h1, h2⟩ := Dzs.snoc_inv r
      exact ⟨_ :: us, v, rfl, .cons a h1, h2⟩
theorem S.popO {i j : Nat} {d : Dat} (h : τ[i]? = some (.own (ds ++ [d]))) (m : S p K u τ' nx rt) (e0 : (τ.set i (.own ds)).set j (.dat d) = τ' := by rfl) : S p K (tSeq (tAsg (tBM0 K "list" rPop (tVar i)) (gName j)) u) τ nx rt := by
  refine S.seq (M := fun x => x = τ') (fun W L σ H D r ok q1 q2 => ?_) fun x ex => ex ▸ m
  obtain ⟨a, vs, e, w, n, l, h1, z⟩ := r.get_own h
  obtain ⟨us, v, rfl, zu, zv⟩ := z.snoc_inv
  have ev : Ev (fun b => b = a) H (upd H a (.lst us)) := ⟨fun b o n h => by rw [upd_ne n]; exact h, Tm.lst h1 _⟩
  have nw : ∀ b, ¬ W b -> ¬ b = a := fun b n z => n (z ▸ w)
  refine ⟨_, e, .inl ⟨rfl, _, SqL.of h1⟩, a, _, v, rfl, rfl, h1, by simp, ?_⟩
  rw [List.dropLast_concat]
  have r1 : Rs p W K (upd H a (.lst us)) L σ (τ.set i (.own ds)) := Rs.chgO w h1 (zu.ev ev nw) r h e
  obtain ⟨L', k1, k2⟩ := r1.set (v := v) (s := .dat d) (.inr (.inl ⟨d, rfl, zv.ev ev nw⟩)) j
  rw [e0] at k2
  have al : ∀ b, W b -> ∃ ys, upd H a (.lst us) b = some ys := fun b hb => upd_any hb ok
  refine q1 W L' _ _ _ rfl (ev.mono fun b hb => hb ▸ w) ⟨fun q hq => ⟨?_, ok.pw q hq⟩, al⟩ al (fun _ h => .inl h) (fun b hb => .inl (k1 b hb)) k2
  obtain ⟨x, y, hh⟩ := (ok.pu q hq).1
  exact ⟨x, y, by rw [upd_ne (fun z => n (by rw [<- z]; exact hq))]; exact hh⟩
theorem S.extendO {i j : Nat} {es : List Dat} (h : τ[i]? = some (.own ds)) (hj : τ[j]? = some (.own es)) (hz : ds.length + es.length <= sizeLine) (m : nx τ') (e0 : τ.set i (.own (ds ++ es)) = τ' := by rfl) : S p K (tDrop (tBM K "list" rExtend (tVar i) (tCons (tVar j) tNil))) τ nx rt := fun W L σ H D r ok q1 q2 => by
  obtain ⟨a, vs, e, w, n, l, h1, z⟩ := r.get_own h
  obtain ⟨b, ws, eb, wb, nb, lb, hb, zb⟩ := r.get_own hj
  have ev : Ev (fun x => x = a) H (upd H a (.lst (vs ++ ws))) := ⟨fun b o n h => by rw [upd_ne n]; exact h, Tm.lst h1 _⟩
  have nw : ∀ b, ¬ W b -> ¬ b = a := fun b n z => n (z ▸ w)
  refine ⟨_, e, .inl ⟨rfl, _, SqL.of h1⟩, _, eb, a, b, vs, ws, rfl, rfl, h1, hb, by rw [z.len, zb.len]; exact hz, ?_⟩
  have r1 := Rs.chgO w h1 ((z.app zb).ev ev nw) r h e
  rw [e0] at r1
  have al : ∀ b, W b -> ∃ ys, upd H a (.lst (vs ++ ws)) b = some ys := fun b hb => upd_any hb ok
  refine q1 W L σ _ _ m (ev.mono fun b hb => hb ▸ w) ⟨fun q hq => ⟨?_, ok.pw q hq⟩, al⟩ al (fun _ h => .inl h) (fun _ h => .inl h) r1
  obtain ⟨x, y, hh⟩ := (ok.pu q hq).1
  exact ⟨x, y, by rw [upd_ne (fun z => n (by rw [<- z]; exact hq))]; exact hh⟩
theorem E.sortI {ns : List Int} (ha : A1 p K tas τ [.vw (ns.map .int)]) (h64 : ns.length < 64) : E p K (tCB (rSortI K) tas) τ (fun s => ∃ ns' : List Int, s = .own (ns'.map .int) /\ ns'.Perm ns /\ ns'.Pairwise (· <= ·)) := fun W L σ H Q rs o q =>
  ha W L σ H _ rs o fun vs H1 ss e e1 o1 rv => by
    subst e
    cases rv with
    | cons x t =>
      cases t
      obtain ⟨a, us, rfl, h1, h2⟩ := x
      have eu := h2.inv
      subst eu
      refine ⟨a, ns, rfl, h1.sq, h64, fun l ns' hl p1 p2 => ?_⟩
      have s1 := Same.new hl (.lst (ns'.map V.int))
      exact q _ _ _ ⟨ns', rfl, p1, p2⟩ (e1.trans (Ev.of s1)) (o1.same s1) ⟨l, _, rfl, o1.back e1 hl, upd_same, Dzs.ints _⟩
end
inductive Con (A : Nat -> Nat -> Prop) : Nat -> Nat -> Prop
  | refl (i : Nat) : Con A i i
  | step {i j k : Nat} : Con A i j -> A j k -> Con A i k
section
variable {A : Nat -> Nat -> Prop}
theorem Con.trans {i j k : Nat} (h : Con A i j) (g : Con A j k) : Con A i k := by
  induction g with
  | refl => exact h
  | step _ a ih => exact .step ih a
theorem Con.symm (hs : ∀ i j, A i j -> A j i) {i j : Nat} (h : Con A i j) : Con A j i := by
  induction h with
  | refl => exact .refl _
  | step _ a ih => exact (Con.step (.refl _) (hs _ _ a)).trans ih
theorem Con.lt {n : Nat} (ha : ∀ i j, A i j -> j < n) {i j : Nat} (h : Con A i j) (hi : i < n) : j < n := by
  cases h with
  | refl => exact hi
  | step _ a => exact ha _ _ a
theorem Con.closed {P : Nat -> Prop} (hc : ∀ i j, P i -> A i j -> P j) {i j : Nat} (h : Con A i j) (hi : P i) : P j := by
  induction h with
  | refl => exact hi
  | step _ a ih => exact hc _ _ ih a
noncomputable def conB (A : Nat -> Nat -> Prop) (i j : Nat) : Bool := @decide (Con A i j) (Classical.propDecidable _)
theorem conB_iff {i j : Nat} : conB A i j = true ↔ Con A i j := by unfold conB; exact @decide_eq_true_iff _ (Classical.propDecidable _)
noncomputable def cls (A : Nat -> Nat -> Prop) (n i : Nat) : List Nat := (List.range n).filter (conB A i)
theorem mem_cls {n i j : Nat} : j ∈ cls A n i ↔ j < n /\ Con A i j := by unfold cls; rw [List.mem_filter, List.mem_range, conB_iff]
theorem srt_eq : ∀ {xs ys : List Int}, xs.Pairwise (· < ·) -> ys.Pairwise (· < ·) -> (∀ x, x ∈ xs ↔ x ∈ ys) -> xs = ys
  | [], [], _, _, _ => rfl
  | [], y :: ys, _, _, h => by have := (h y).mpr List.mem_cons_self; cases this
  | x :: xs, [], _, _, h => by have := (h x).mp List.mem_cons_self; cases this
  | x :: xs, y :: ys, h1, h2, h => by
    obtain ⟨a1, a2⟩ := List.pairwise_cons.mp h1
    obtain ⟨b1, b2⟩ := List.pairwise_cons.mp h2
    have e : x = y := by
      rcases List.mem_cons.mp ((h x).mp List.mem_cons_self) with e | e
      . exact e
      . rcases List.mem_cons.mp ((h y).mpr List.mem_cons_self) with e' | e'
        . exact e'.symm
        . have := a1 y e'; have := b1 x e; omega
    subst e
    have hx : x ∉ xs := fun z => by have := a1 x z; omega
    have hy : x ∉ ys := fun z => by have := b1 x z; omega
    rw [srt_eq a2 b2 fun z => ⟨fun hz => (List.mem_cons.mp ((h z).mp (List.mem_cons_of_mem _ hz))).resolve_left fun e => hx (e ▸ hz), fun hz => (List.mem_cons.mp ((h z).mpr (List.mem_cons_of_mem _ hz))).resolve_left fun e => hy (e ▸ hz)⟩]
theorem srt_range (n : Nat) : (List.range n).Pairwise (· < ·) := List.pairwise_lt_range
theorem nI_srt {l : List Nat} (h : l.Pairwise (· < ·)) : (nI l).Pairwise (· < ·) := by
  unfold nI
  rw [List.pairwise_map]
  exact h.imp fun h => by omega
theorem cls_srt {n i : Nat} : (cls A n i).Pairwise (· < ·) := List.Pairwise.filter _ (srt_range n)
noncomputable def isMin (A : Nat -> Nat -> Prop) (j : Nat) : Prop := ∀ i, i < j -> ¬ Con A i j
noncomputable def minB (A : Nat -> Nat -> Prop) (j : Nat) : Bool := @decide (isMin A j) (Classical.propDecidable _)
theorem minB_iff {j : Nat} : minB A j = true ↔ isMin A j := by unfold minB; exact @decide_eq_true_iff _ (Classical.propDecidable _)
theorem least_of (A : Nat -> Nat -> Prop) : ∀ (j i : Nat), i <= j -> Con A i j -> ∃ m, m <= i /\ Con A m j /\ ∀ k, k < m -> ¬ Con A k j := fun j i => by
  induction i using Nat.strongRecOn with
  | _ i ih =>
    intro hi hc
    by_cases h : ∃ k, k < i /\ Con A k j
    . obtain ⟨k, k1, k2⟩ := h
      obtain ⟨m, m1, m2, m3⟩ := ih k k1 (by omega) k2
      exact ⟨m, by omega, m2, m3⟩
    . exact ⟨i, Nat.le_refl _, hc, fun k hk hkc => h ⟨k, hk, hkc⟩⟩
theorem min_of (hs : ∀ i j, A i j -> A j i) (j : Nat) : ∃ m, m <= j /\ Con A m j /\ isMin A m := by
  obtain ⟨m, m1, m2, m3⟩ := least_of A j j (Nat.le_refl _) (.refl _)
  exact ⟨m, m1, m2, fun k hk hc => m3 k hk (hc.trans m2)⟩
noncomputable def lotsL (A : Nat -> Nat -> Prop) (n : Nat) : List (List Nat) := ((List.range n).filter (minB A)).map (cls A n)
end
noncomputable def adj (fs : List (List Int)) (q : Rat) (i j : Nat) : Prop := i < fs.length /\ j < fs.length /\ ¬ rho fs i j < q
theorem adj_symm {fs : List (List Int)} (hs : ∀ x y, x < fs.length -> y < fs.length -> rho fs x y = rho fs y x) {q : Rat} : ∀ i j, adj fs q i j -> adj fs q j i := fun i j ⟨h1, h2, h3⟩ => ⟨h2, h1, by rw [hs j i h2 h1]; exact h3⟩
theorem rho_symm {fs : List (List Int)} {b : Nat} (st : Sts b fs) : ∀ x y, x < fs.length -> y < fs.length -> rho fs x y = rho fs y x := fun x y hx hy => by
  have e1 := List.getElem?_eq_getElem hx
  have e2 := List.getElem?_eq_getElem hy
  rw [rho_at e1 e2, rho_at e2 e1, rq_comm (st _ (List.getElem_mem hx)).1 (st _ (List.getElem_mem hy)).1]
noncomputable def RLotOf : List Dat -> List Dat -> Prop := fun ds es => ∃ (fs : List (List Int)) (i : Nat) (a b : Int), ds = [stD fs, .int i, tI [a, b]] /\ Sts 1000 fs /\ fs.length <= 60 /\ i < fs.length /\ 0 < b /\ Bt a 8000 /\ Bt b 8000 /\ es = (nI (cls (adj fs (qv a b)) fs.length i)).map .int
structure Lot (fs : List (List Int)) (q : Rat) (first : Nat) (lot edge : List Nat) : Prop where
  nd : lot.Nodup
  ln : ∀ x ∈ lot, x < fs.length
  ne : edge.Nodup
  con : ∀ x ∈ lot, Con (adj fs q) first x
  fst : first ∈ lot
  sub : ∀ x ∈ edge, x ∈ lot
  cl : ∀ x ∈ lot, x ∉ edge -> ∀ y, adj fs q x y -> y ∈ lot
theorem Lot.start {fs : List (List Int)} {q : Rat} {first : Nat} (h : first < fs.length) : Lot fs q first [first] [first] :=
  ⟨by simp, fun x hx => by rw [List.mem_singleton] at hx; subst hx; exact h, by simp, fun x hx => by rw [List.mem_singleton] at hx; subst hx; exact .refl _, by simp, fun x hx => hx, fun x hx nx => absurd hx nx⟩
theorem Lot.turn {fs : List (List Int)} {q : Rat} {first here : Nat} {lot edge near : List Nat} (l : Lot fs q first lot (edge ++ [here])) (hn : near = (bey fs.length (nI lot)).filter fun y => !decide (rho fs here y < q)) : Lot fs q first (lot ++ near) (edge ++ near) := by
  have hh : here ∈ lot := l.sub here (by simp)
  have h1 := l.ln here hh
  have mn : ∀ y, y ∈ near ↔ y < fs.length /\ y ∉ lot /\ ¬ rho fs here y < q := fun y => by
    rw [hn, List.mem_filter, mem_bey]
    simp only [Bool.not_eq_true', decide_eq_false_iff_not]
    exact ⟨fun ⟨⟨a, b⟩, c⟩ => ⟨a, fun z => b (mem_nI.mpr z), c⟩, fun ⟨a, b, c⟩ => ⟨⟨a, fun z => b (mem_nI.mp z)⟩, c⟩⟩
  have nn : near.Nodup := by rw [hn]; exact List.Pairwise.filter _ (by unfold bey; exact List.Pairwise.filter _ List.nodup_range)
  have ne := List.nodup_append.mp l.ne
  have dis : ∀ x ∈ lot, ∀ y ∈ near, x ≠ y := fun x hx y hy z => ((mn y).mp hy).2.1 (z ▸ hx)
  refine ⟨List.nodup_append.mpr ⟨l.nd, nn, dis⟩, fun x hx => ?_, List.nodup_append.mpr ⟨ne.1, nn, fun x hx y hy => dis x (l.sub x (List.mem_append_left _ hx)) y hy⟩, fun x hx => ?_, List.mem_append_left _ l.fst, fun x hx => ?_, fun x hx nx y hy => ?_⟩
  . rcases List.mem_append.mp hx with hx | hx
    . exact l.ln x hx
    . exact ((mn x).mp hx).1
  . rcases List.mem_append.mp hx with hx | hx
    . exact l.con x hx
    . obtain ⟨a, b, c⟩ := (mn x).mp hx
      exact .step (l.con here hh) ⟨h1, a, c⟩
  . rcases List.mem_append.mp hx with hx | hx
    . exact List.mem_append_left _ (l.sub x (List.mem_append_left _ hx))
    . exact List.mem_append_right _ hx
  . rcases List.mem_append.mp hx with hx | hx
    . by_cases yl : y ∈ lot
      . exact List.mem_append_left _ yl
      . by_cases z : x = here
        . subst z
          exact List.mem_append_right _ ((mn y).mpr ⟨hy.2.1, yl, hy.2.2⟩)
        . refine List.mem_append_left _ (l.cl x hx (fun w => ?_) y hy)
          rcases List.mem_append.mp w with w | w
          . exact nx (List.mem_append_left _ w)
          . rw [List.mem_singleton] at w; exact z w
    . exact absurd (List.mem_append_right _ hx) nx
theorem Lot.done {fs : List (List Int)} {q : Rat} {first : Nat} {lot : List Nat} (l : Lot fs q first lot []) {ns : List Int} (hp : ns.Perm (nI lot)) (hs : ns.Pairwise (· <= ·)) : ns = nI (cls (adj fs q) fs.length first) := by
  have nd : ns.Nodup := hp.symm.nodup (nI_nd l.nd)
  refine srt_eq ?_ (nI_srt cls_srt) fun x => ?_
  . exact hs.imp₂ (fun h1 h2 => by omega) nd
  . rw [hp.mem_iff]
    constructor
    . intro hx
      obtain ⟨n, hn, rfl⟩ := List.mem_map.mp hx
      exact mem_nI.mpr (mem_cls.mpr ⟨l.ln n hn, l.con n hn⟩)
    . intro hx
      obtain ⟨n, hn, rfl⟩ := List.mem_map.mp hx
      obtain ⟨_, hc⟩ := mem_cls.mp hn
      exact mem_nI.mpr (hc.closed (P := fun x => x ∈ lot) (fun i j hi ha => l.cl i hi (fun z => by cases z) j ha) l.fst)
noncomputable def RLots : List Dat -> (Own -> Prop) -> Prop := fun ds C => ∃ (fs : List (List Int)) (a b : Int), ds = [stD fs, tI [a, b]] /\ Sts 1000 fs /\ fs.length <= 60 /\ 0 < b /\ Bt a 8000 /\ Bt b 8000 /\ C = fun o => o = nestO (((lotsL (adj fs (qv a b)) fs.length).map nI).map fun xs => xs.map .int)
theorem lots_any {A : Nat -> Nat -> Prop} (hs : ∀ i j, A i j -> A j i) {n k : Nat} (hk : k < n) : ((((List.range k).filter (minB A)).map (cls A n)).map nI).any (fun xs => decide ((k : Int) ∈ xs)) = !minB A k := by
  rw [Bool.eq_iff_iff, List.any_eq_true]
  constructor
  . rintro ⟨xs, hxs, h⟩
    obtain ⟨c, hc, rfl⟩ := List.mem_map.mp hxs
    obtain ⟨m, hm, rfl⟩ := List.mem_map.mp hc
    rw [List.mem_filter, List.mem_range] at hm
    have := (mem_cls.mp (mem_nI.mp (of_decide_eq_true h))).2
    rw [Bool.not_eq_true', <- Bool.not_eq_true, minB_iff]
    exact fun z => z m hm.1 this
  . intro h
    rw [Bool.not_eq_true', <- Bool.not_eq_true, minB_iff] at h
    obtain ⟨m, m1, m2, m3⟩ := min_of hs k
    have ml : m < k := by
      rcases Nat.lt_or_eq_of_le m1 with z | z
      . exact z
      . exact absurd (z ▸ m3) h
    exact ⟨nI (cls A n m), List.mem_map.mpr ⟨_, List.mem_map.mpr ⟨m, List.mem_filter.mpr ⟨List.mem_range.mpr ml, minB_iff.mpr m3⟩, rfl⟩, rfl⟩, decide_eq_true (mem_nI.mpr (mem_cls.mpr ⟨hk, m2⟩))⟩
end
end D
section
namespace L2
open PySem PySem.Spec PyProof.Rows
section
end
end L2
namespace D
open PySem L2 K0 Num
open PySem.W (Dat)
section
variable {W : Addr -> Prop}
end
theorem lots_len {A : Nat -> Nat -> Prop} {n : Nat} : (lotsL A n).length <= n /\ ∀ x ∈ lotsL A n, x.length <= n := by
  unfold lotsL
  constructor
  . rw [List.length_map]; exact Nat.le_trans (List.length_filter_le _ _) (by rw [List.length_range]; exact Nat.le_refl _)
  . intro x hx
    obtain ⟨y, _, rfl⟩ := List.mem_map.mp hx
    unfold cls
    exact Nat.le_trans (List.length_filter_le _ _) (by rw [List.length_range]; exact Nat.le_refl _)
end D
end
namespace D
open PySem L2 K0 Num
open PySem.W (Dat)
section
noncomputable def noPu : Sl -> Sl
  | .pu => .un
  | s => s
theorem Rs.noPu {p : Option Addr} {W : Addr -> Prop} {K : PySem.W.Frag} {H : Hp} {L : List Addr} {σ : St} {τ : List Sl} (r : Rs p W K H L σ τ) : flatDs (τ.map noPu) = true -> Rs none (fun _ => False) K H [] σ (τ.map noPu) := by
  induction r with
  | nil => intro _; exact .nil
  | un _ ih => intro h; exact .un (ih (Bool.and_eq_true_iff.mp (show (flatD Sl.un && flatDs _) = true from h)).2)
  | @dat _ _ _ _ d z _ ih => intro h; exact .dat (z.mono fun a n y => y) (ih (Bool.and_eq_true_iff.mp (show (flatD (Sl.dat d) && flatDs _) = true from h)).2)
  | pu _ _ ih => intro h; exact .un (ih (Bool.and_eq_true_iff.mp (show (flatD Sl.un && flatDs _) = true from h)).2)
  | @own _ _ _ _ _ ds _ _ _ _ _ _ _ => intro h; exact absurd (Bool.and_eq_true_iff.mp (show (flatD (Sl.own ds) && flatDs _) = true from h)).1 Bool.false_ne_true
  | @dt _ _ _ _ _ o _ _ _ _ _ _ => intro h; exact absurd (Bool.and_eq_true_iff.mp (show (flatD (Sl.dt o) && flatDs _) = true from h)).1 Bool.false_ne_true
theorem S.noPu {K : PySem.W.Frag} {t : TS} {q : Addr} {τ τ' : List Sl} {nx : List Sl -> Prop} {b : Bool} (m : S none K t τ' (fun _ => False) (fun s => s = .dat (.bool b))) (e : τ.map D.noPu = τ' := by rfl) (hf : flatDs τ' = true := by rfl) : S (some q) K t τ nx (fun s => s = .dat (.bool b)) := fun W L σ H D r o q1 q2 => by
  subst e
  refine m (fun _ => False) [] σ H D (r.noPu hf) ⟨fun a h => (by cases h), fun a h => h.elim⟩ (fun W2 L2 σ2 H2 τ2 c ev o2 al n l rs => c.elim) (fun W2 H2 v s c ev o2 al n rv => ?_)
  subst c
  have same : ∀ a y, H a = some y -> H2 a = some y := fun a y h => ev.keep a y (fun z => z) h
  have z : Dz (fun a => ¬ W2 a) K H2 v (.bool b) := rv
  refine q2 W H2 v _ rfl (ev.mono fun a z => z.elim) ⟨fun a h => ?_, fun a h => ?_⟩ (fun a h => ?_) (fun a h => .inl h) ?_
  . obtain ⟨pu, w⟩ := o.pu a h
    obtain ⟨x, y, hx⟩ := pu
    exact ⟨⟨x, y, same _ _ hx⟩, w⟩
  . obtain ⟨ys, h⟩ := o.al a h; exact ⟨ys, same _ _ h⟩
  . obtain ⟨ys, h⟩ := o.al a h; exact ⟨ys, same _ _ h⟩
  . show Dz (fun a => ¬ W a) K H2 v (.bool b)
    cases z
    exact .bool _
theorem Nst.dzl {N : Addr -> Prop} {K : PySem.W.Frag} {H : Hp} {bs : List Addr} {xss : List (List Dat)} (h : Nst N K H bs xss) : Dzs (fun b => N b \/ b ∈ bs) K H (bs.map V.ref) (xss.map Dat.list) := by
  have : ∀ {bs xss}, Nst N K H bs xss -> ∀ M : Addr -> Prop, (∀ b, N b -> M b) -> (∀ b ∈ bs, M b) -> Dzs M K H (bs.map V.ref) (xss.map Dat.list) := by
    intro bs xss h
    induction h with
    | nil => intro M _ _; exact .nil
    | @cons b bs vs xs xss e z _ ih =>
      intro M hm hb
      exact .cons (.lst (.inl ⟨hb b (by simp), .inl e⟩) (z.mono hm)) (ih M hm fun c hc => hb c (by simp [hc]))
  exact this h _ (fun b h => .inl h) (fun b h => .inr h)
section
variable {p : Option Addr} {K : PySem.W.Frag} {W : Addr -> Prop} {L : List Addr} {σ : St} {H H2 : Hp} {τ τ' : List Sl} {te : TE} {tas : TA} {ds : List Dat} {E' : XK}
theorem E1.callNest {R : List Dat -> (Own -> Prop) -> Prop} {C : Own -> Prop} {ss : List Sl} {xss : List (List Int)} (ha : A1 p K tas τ ss) (hr : R ds C) (hC : ∀ o, C o -> o = nestO (xss.map fun xs => xs.map .int)) (hd : datsOf ss = some ds := by rfl) : E1 p K (tCall (spO K R) [] E' tas) τ (.dat (.list (xss.map iD))) := fun W L σ H Q rs o q => by
  have nls : ∀ xs ∈ xss.map (fun xs => xs.map Dat.int), noLs xs = true := fun xs hx => by
    obtain ⟨y, _, rfl⟩ := List.mem_map.mp hx; exact noLs_ints _
  refine E.callO ha hr (fun o c => hC o c ▸ nestO_free nls) hd W L σ H _ rs o fun v H' s ⟨ot, es, _, c⟩ e1 o1 rv => ?_
  subst es
  have eo := hC ot c
  subst eo
  obtain ⟨a, l, rfl, hl, bs, el, nd, h, z⟩ := rv
  refine q _ H' _ rfl e1 o1 ?_
  have zz := z.dzl
  rw [List.map_map] at zz
  subst el
  exact .lst (.inl ⟨o.fresh (hl a (by simp)), .inl h⟩) (zz.mono fun b hb => hb.elim id fun hb => o.fresh (hl b (by simp [hb])))
end
theorem ratLeLt {a b c : Rat} (h : a <= b) (g : b < c) : a < c := Rat.not_le.mp fun z => Rat.not_le.mpr g (Rat.le_trans z h)
theorem ratLtLe {a b c : Rat} (h : a < b) (g : b <= c) : a < c := Rat.not_le.mp fun z => Rat.not_le.mpr h (Rat.le_trans g z)
noncomputable def mn (fs : List (List Int)) (ps : List Nat) (r : Rat) (p : Nat) : Rat := if rho fs (ps.getLastD 0) p < r then rho fs (ps.getLastD 0) p else r
inductive Way (fs : List (List Int)) (one : Nat) : Nat -> List Nat -> Rat -> Prop
  | start : Way fs one 0 [one] 1
  | grow {t : Nat} {ps : List Nat} {r : Rat} {p : Nat} : Way fs one t ps r -> p < fs.length -> p ∉ ps -> Way fs one (t + 1) (ps ++ [p]) (mn fs ps r p)
theorem mn_le {fs : List (List Int)} {ps : List Nat} {r : Rat} {p : Nat} : mn fs ps r p <= r /\ mn fs ps r p <= rho fs (ps.getLastD 0) p := by
  unfold mn
  split
  . next h => exact ⟨Rat.le_of_lt h, Rat.le_refl⟩
  . next h => exact ⟨Rat.le_refl, Rat.not_lt.mp h⟩
theorem mn_or {fs : List (List Int)} {ps : List Nat} {r : Rat} {p : Nat} : mn fs ps r p = r \/ mn fs ps r p = rho fs (ps.getLastD 0) p := by
  unfold mn
  split
  . exact .inr rfl
  . exact .inl rfl
theorem lastD_mem {ps : List Nat} (h : ps ≠ []) : ps.getLastD 0 ∈ ps := by
  rw [List.getLastD_eq_getLast?, List.getLast?_eq_some_getLast h]
  exact List.getLast_mem h
theorem lastD_snoc {ps : List Nat} {p : Nat} : (ps ++ [p]).getLastD 0 = p := by
  rw [List.getLastD_eq_getLast?, List.getLast?_append]; rfl
section
variable {fs : List (List Int)} {one : Nat} {t : Nat} {ps : List Nat} {r : Rat}
theorem Way.len (h : Way fs one t ps r) : ps.length = t + 1 := by
  induction h with
  | start => rfl
  | grow _ _ _ ih => rw [List.length_append, List.length_singleton, ih]
theorem Way.ne (h : Way fs one t ps r) : ps ≠ [] := fun z => by have := h.len; rw [z] at this; cases this
theorem Way.ins (h : Way fs one t ps r) (h1 : one < fs.length) : Ins fs ps := by
  induction h with
  | start => exact ⟨fun i hi => by rw [List.mem_singleton] at hi; rw [hi]; exact h1, (by simp)⟩
  | grow w p1 p2 ih =>
    refine ⟨fun i hi => ?_, ?_⟩
    . rcases List.mem_append.mp hi with hi | hi
      . exact ih.lt i hi
      . rw [List.mem_singleton] at hi; rw [hi]; exact p1
    . rw [List.nodup_append]
      refine ⟨ih.nd, (by simp), fun a ha b hb e => ?_⟩
      rw [List.mem_singleton] at hb; subst hb; subst e; exact p2 ha
theorem Way.lt (h : Way fs one t ps r) (h1 : one < fs.length) : t < fs.length := by
  have := nodup_le fs.length ps (h.ins h1).nd (h.ins h1).lt
  have := h.len; omega
theorem Way.head (h : Way fs one t ps r) : ps.head? = some one := by
  induction h with
  | start => rfl
  | grow w _ _ ih => rw [List.head?_append, ih]; rfl
theorem Way.last1 (h : Way fs one t ps r) (h1 : one < fs.length) : ps.getLastD 0 < fs.length := (h.ins h1).lt _ (lastD_mem h.ne)
theorem Way.qb (h : Way fs one t ps r) (st : Sts 1000 fs) (h1 : one < fs.length) : QB r := by
  induction h with
  | start => exact ⟨by unfold Bt; decide, by unfold Bt; decide⟩
  | @grow t ps r p w p1 p2 ih =>
    rcases mn_or (fs := fs) (ps := ps) (r := r) (p := p) with e | e
    . rw [e]; exact ih
    . rw [e]; exact qb_rho st (w.last1 h1) p1
theorem Way.nn (h : Way fs one t ps r) (st : Sts 1000 fs) (h1 : one < fs.length) : 0 <= r := by
  induction h with
  | start => decide
  | @grow t ps r p w p1 p2 ih =>
    rcases mn_or (fs := fs) (ps := ps) (r := r) (p := p) with e | e
    . rw [e]; exact ih
    . rw [e]; exact rho_nn st (w.last1 h1) p1
theorem Way.step (h : Way fs one t ps r) : ∀ k i j : Nat, ps[k]? = some i -> ps[k + 1]? = some j -> r <= rho fs i j := by
  induction h with
  | start => intro k i j _ h; rw [List.getElem?_eq_none (by simp)] at h; cases h
  | @grow t ps r p w p1 p2 ih =>
    intro k i j h1 h2
    have hl := (List.getElem?_eq_some_iff.mp h2).1
    rw [List.length_append, List.length_singleton] at hl
    by_cases c : k + 1 < ps.length
    . rw [List.getElem?_append_left (by omega)] at h1
      rw [List.getElem?_append_left c] at h2
      exact Rat.le_trans mn_le.1 (ih k i j h1 h2)
    . have ek : k + 1 = ps.length := by omega
      rw [List.getElem?_append_left (by omega)] at h1
      rw [List.getElem?_append_right (by omega), ek, Nat.sub_self] at h2
      cases h2
      have ei : ps.getLastD 0 = i := by
        rw [List.getLastD_eq_getLast?, List.getLast?_eq_getElem?, show ps.length - 1 = k by omega, h1]; rfl
      rw [<- ei]; exact mn_le.2
theorem Way.upto (h : Way fs one t ps r) {j : Nat} (hj : j ∈ ps) : ∃ t' ps' r', Way fs one t' ps' r' /\ ps'.getLastD 0 = j /\ r <= r' := by
  induction h with
  | start => rw [List.mem_singleton] at hj; exact ⟨_, _, _, .start, hj.symm, Rat.le_refl⟩
  | @grow t ps r p w p1 p2 ih =>
    rcases List.mem_append.mp hj with hj | hj
    . obtain ⟨t', ps', r', w', e, le⟩ := ih hj
      exact ⟨t', ps', r', w', e, Rat.le_trans mn_le.1 le⟩
    . rw [List.mem_singleton] at hj; subst hj
      exact ⟨_, _, _, .grow w p1 p2, lastD_snoc, Rat.le_refl⟩
end
noncomputable def bestF (ws : List (List Nat × Rat)) (other : Nat) (b0 : Rat) : Rat := ws.foldl (fun b w => if w.1.getLastD 0 = other /\ b < w.2 then w.2 else b) b0
theorem best_inv (other : Nat) : ∀ (ws : List (List Nat × Rat)) (b0 : Rat), b0 <= bestF ws other b0 /\ (∀ w ∈ ws, w.1.getLastD 0 = other -> w.2 <= bestF ws other b0) /\ (bestF ws other b0 = b0 \/ ∃ w ∈ ws, w.1.getLastD 0 = other /\ w.2 = bestF ws other b0)
  | [], b0 => ⟨Rat.le_refl, fun w h => (by cases h), .inl rfl⟩
  | w :: ws, b0 => by
    have e : bestF (w :: ws) other b0 = bestF ws other (if w.1.getLastD 0 = other /\ b0 < w.2 then w.2 else b0) := rfl
    obtain ⟨h1, h2, h3⟩ := best_inv other ws (if w.1.getLastD 0 = other /\ b0 < w.2 then w.2 else b0)
    rw [<- e] at h1 h2 h3
    by_cases c : w.1.getLastD 0 = other /\ b0 < w.2
    . rw [if_pos c] at h1 h3
      refine ⟨Rat.le_trans (Rat.le_of_lt c.2) h1, fun x hx ex => ?_, ?_⟩
      . rcases List.mem_cons.mp hx with rfl | hx
        . exact h1
        . exact h2 x hx ex
      . rcases h3 with h3 | ⟨x, hx, ex, er⟩
        . exact .inr ⟨w, by simp, c.1, h3.symm⟩
        . exact .inr ⟨x, by simp [hx], ex, er⟩
    . rw [if_neg c] at h1 h3
      refine ⟨h1, fun x hx ex => ?_, ?_⟩
      . rcases List.mem_cons.mp hx with rfl | hx
        . exact Rat.le_trans (Rat.not_lt.mp fun z => c ⟨ex, z⟩) h1
        . exact h2 x hx ex
      . rcases h3 with h3 | ⟨x, hx, ex, er⟩
        . exact .inl h3
        . exact .inr ⟨x, by simp [hx], ex, er⟩
theorem best_calm {fs : List (List Int)} {one other : Nat} {ws : List (List Nat × Rat)} (st : Sts 1000 fs) (h1 : one < fs.length) (h2 : other < fs.length) (ne : one ≠ other) (snd : ∀ w ∈ ws, ∃ s, Way fs one s w.1 w.2) (full : ∀ s ps r, Way fs one s ps r -> (ps, r) ∈ ws) : ∃ ps sp, Calm fs one other ps (bestF ws other (-1)) sp := by
  obtain ⟨i1, i2, i3⟩ := best_inv other ws (-1)
  have w1 : Way fs one 1 ([one] ++ [other]) (mn fs [one] 1 other) := .grow .start h2 (by rw [List.mem_singleton]; exact fun z => ne z.symm)
  have p1 := i2 _ (full _ _ _ w1) lastD_snoc
  have p0 := w1.nn st h1
  obtain ⟨w, hw, el, er⟩ : ∃ w ∈ ws, w.1.getLastD 0 = other /\ w.2 = bestF ws other (-1) := by
    rcases i3 with z | z
    . rw [z] at p1
      exact absurd (Rat.le_trans p0 p1) (by decide)
    . exact z
  obtain ⟨s, wy⟩ := snd w hw
  rw [er] at wy
  have lst : w.1.getLast? = some other := by
    rw [List.getLastD_eq_getLast?, List.getLast?_eq_some_getLast wy.ne] at el
    rw [List.getLast?_eq_some_getLast wy.ne]; exact congrArg some el
  let P : Nat -> Prop := fun j => ∃ t ps r, Way fs one t ps r /\ ps.getLastD 0 = j /\ bestF ws other (-1) < r
  let sp := (List.range fs.length).filter fun j => @decide (P j) (Classical.propDecidable _)
  have ms : ∀ j, j ∈ sp ↔ j < fs.length /\ P j := fun j => by
    show j ∈ (List.range fs.length).filter _ ↔ _
    rw [List.mem_filter, List.mem_range, @decide_eq_true_iff (P j) (Classical.propDecidable _)]
  by_cases z : bestF ws other (-1) < 1
  . refine ⟨w.1, sp, .inr ⟨ne, ⟨wy.ins h1, wy.head, lst, wy.step⟩, ⟨⟨fun i hi => ((ms i).mp hi).1, List.Pairwise.filter _ List.nodup_range⟩, (ms one).mpr ⟨h1, 0, [one], 1, .start, rfl, z⟩, fun ho => ?_, fun i hi j hj nj => ?_⟩⟩⟩
    . obtain ⟨_, t, ps, r, wr, e, lt⟩ := (ms other).mp ho
      exact Rat.not_lt.mpr (i2 _ (full _ _ _ wr) e) lt
    . refine Rat.not_lt.mp fun lt => nj ((ms j).mpr ⟨hj, ?_⟩)
      obtain ⟨_, t, ps, r, wr, e, l2⟩ := (ms i).mp hi
      by_cases c : j ∈ ps
      . obtain ⟨t', ps', r', w', e', le⟩ := wr.upto c
        exact ⟨t', ps', r', w', e', ratLtLe l2 le⟩
      . refine ⟨_, _, _, .grow wr hj c, lastD_snoc, ?_⟩
        rcases mn_or (fs := fs) (ps := ps) (r := r) (p := j) with x | x
        . rw [x]; exact l2
        . rw [x, e]; exact lt
  . refine ⟨w.1, [one], .inr ⟨ne, ⟨wy.ins h1, wy.head, lst, wy.step⟩, ⟨⟨fun i hi => by rw [List.mem_singleton] at hi; rw [hi]; exact h1, (by simp)⟩, List.mem_singleton.mpr rfl, fun ho => ne (List.mem_singleton.mp ho).symm, fun i hi j hj nj => ?_⟩⟩⟩
    rw [List.mem_singleton] at hi
    exact Rat.le_trans (rho_le1 st (hi ▸ h1) hj) (Rat.not_lt.mp z)
theorem calm_con {fs : List (List Int)} {one other : Nat} {ps sp : List Nat} {r q : Rat} (c : Calm fs one other ps r sp) (ne : one ≠ other) : Con (adj fs q) one other ↔ ¬ r < q := by
  rcases c with ⟨e, _⟩ | ⟨_, pa, sl⟩
  . exact absurd e ne
  constructor
  . intro h lt
    refine sl.oth (h.closed (P := fun k => k ∈ sp) (fun i j hi a => ?_) sl.one)
    by_cases z : j ∈ sp
    . exact z
    . exact absurd (ratLeLt (sl.st i hi j a.2.1 z) lt) a.2.2
  . intro h
    have key : ∀ k x : Nat, ps[k]? = some x -> Con (adj fs q) one x := by
      intro k
      induction k with
      | zero => intro x hx; rw [<- List.head?_eq_getElem?, pa.hd] at hx; cases hx; exact .refl _
      | succ k ih =>
        intro x hx
        have hl := (List.getElem?_eq_some_iff.mp hx).1
        obtain ⟨y, hy⟩ : ∃ y, ps[k]? = some y := ⟨_, List.getElem?_eq_getElem (by omega)⟩
        exact .step (ih y hy) ⟨pa.ins.lt y (List.mem_of_getElem? hy), pa.ins.lt x (List.mem_of_getElem? hx), fun z => h (ratLeLt (pa.st k y x hy hx) z)⟩
    have la := pa.la
    rw [List.getLast?_eq_getElem?] at la
    exact key _ _ la
theorem lot_first {A : Nat -> Nat -> Prop} (hs : ∀ i j, A i j -> A j i) {n one : Nat} (h1 : one < n) (hA : ∀ i j, A i j -> i < n /\ j < n) : ∃ x l, ((lotsL A n).map nI).filter (fun xs => decide ((one : Int) ∈ xs)) = nI x :: l /\ ∀ k, k < n -> (k ∈ x ↔ Con A one k) := by
  have me : ∀ (x : List Nat) (k : Nat), (k : Int) ∈ nI x ↔ k ∈ x := fun x k => by
    unfold nI; rw [List.mem_map]
    exact ⟨fun ⟨y, hy, e⟩ => by rw [show k = y by omega]; exact hy, fun h => ⟨k, h, rfl⟩⟩
  have any : ∃ x ∈ lotsL A n, one ∈ x := by
    have key : ∀ m, (∀ i, Con A one i -> i < m -> False) \/ ∃ i, Con A one i /\ isMin A i /\ i < n := by
      intro m
      induction m with
      | zero => left; intro i _ h; omega
      | succ m ih =>
        rcases ih with ih | ih
        . by_cases c : Con A one m
          . refine .inr ⟨m, c, fun i hi hc => ?_, c.lt (fun i j h => (hA i j h).2) h1⟩
            exact ih i (c.trans (hc.symm hs)) hi
          . left; intro i hi hm
            rcases Nat.lt_or_eq_of_le (Nat.lt_succ_iff.mp hm) with z | z
            . exact ih i hi z
            . subst z; exact c hi
        . exact .inr ih
    rcases key n with z | ⟨i, c, mi, il⟩
    . exact (z one (.refl _) h1).elim
    . refine ⟨cls A n i, ?_, mem_cls.mpr ⟨h1, c.symm hs⟩⟩
      unfold lotsL
      exact List.mem_map.mpr ⟨i, List.mem_filter.mpr ⟨List.mem_range.mpr il, minB_iff.mpr mi⟩, rfl⟩
  obtain ⟨x0, hx0, o0⟩ := any
  have m0 : nI x0 ∈ ((lotsL A n).map nI).filter (fun xs => decide ((one : Int) ∈ xs)) := List.mem_filter.mpr ⟨List.mem_map.mpr ⟨x0, hx0, rfl⟩, decide_eq_true ((me x0 one).mpr o0)⟩
  cases e : ((lotsL A n).map nI).filter (fun xs => decide ((one : Int) ∈ xs)) with
  | nil => rw [e] at m0; cases m0
  | cons y l =>
    have my : y ∈ ((lotsL A n).map nI).filter (fun xs => decide ((one : Int) ∈ xs)) := by rw [e]; simp
    obtain ⟨m1, m2⟩ := List.mem_filter.mp my
    obtain ⟨x, hx, rfl⟩ := List.mem_map.mp m1
    refine ⟨x, l, rfl, fun k hk => ?_⟩
    have ox := (me x one).mp (of_decide_eq_true m2)
    unfold lotsL at hx
    obtain ⟨i, _, rfl⟩ := List.mem_map.mp hx
    have c := (mem_cls.mp ox).2
    rw [mem_cls]
    exact ⟨fun h => (c.symm hs).trans h.2, fun h => ⟨hk, c.trans h⟩⟩
noncomputable def wD (w : List Nat × Rat) : Dat := .tuple [iD (nI w.1), tI (qf w.2)]
noncomputable def RLonger : List Dat -> (Dat -> Prop) -> Prop := fun ds C => ∃ (fs : List (List Int)) (one : Nat), ds = [stD fs, .list [wD ([one], 1)]] /\ Sts 200 fs /\ fs.length <= 5 /\ one < fs.length /\ C = fun d => ∃ ws : List (List Nat × Rat), d = .list (ws.map wD) /\ (∀ w ∈ ws, ∃ s, Way fs one s w.1 w.2) /\ ∀ s ps r, Way fs one s ps r -> (ps, r) ∈ ws
noncomputable def RBest79 : List Dat -> Dat -> Prop := fun ds d => ∃ (fs : List (List Int)) (ws : List (List Nat × Rat)) (other : Nat), ds = [stD fs, .list (ws.map wD), .int other] /\ (∀ w ∈ ws, w.1 ≠ [] /\ QB8 w.2) /\ d = tI (qf (bestF ws other (-1)))
noncomputable def RLotsR : List Dat -> Dat -> Prop := fun ds d => ∃ (fs : List (List Int)) (one other : Nat) (r : Rat) (ps sp : List Nat), ds = [stD fs, .int one, .int other, tI (qf r)] /\ Sts 200 fs /\ fs.length <= 5 /\ one < fs.length /\ other < fs.length /\ one ≠ other /\ QB8 r /\ Calm fs one other ps r sp /\ d = .bool true
theorem atI_lastD {ps : List Nat} (h : ps ≠ []) : atI ((nI ps).map Dat.int) (-1) = some (.int (ps.getLastD 0 : Nat)) := by
  refine atI_last ?_
  unfold nI
  rw [List.map_map, List.getLast?_map, List.getLast?_eq_some_getLast h, List.getLastD_eq_getLast?, List.getLast?_eq_some_getLast h]
  rfl
theorem E1.compR {p : Option Addr} {K : PySem.W.Frag} {τ : List Sl} {wi : TI} {te : TE} {n : Nat} {g : Nat -> Dat} (hw : Wk p K wi τ (rangeD 0 n)) (turn : ∀ k : Nat, k < n -> E1 p K te (.dat (.int k) :: τ) (.dat (g k))) (hz : n <= sizeLine) : E1 p K (tCompB 1 wi (gName 0) tAll te) τ (.own ((List.range n).map g)) := by
  refine E1.to (E1.compM (f := fun d => match d with | .int a => g a.toNat | d => d) hw (fun d hd => ?_) (by rw [rangeD_len]; exact hz)) ?_
  . rw [rangeD_nI] at hd
    obtain ⟨a, ha, rfl⟩ := List.mem_map.mp hd
    obtain ⟨k, hk, rfl⟩ := List.mem_map.mp ha
    exact turn k (List.mem_range.mp hk)
  . rw [rangeD_nI]
    unfold nI
    rw [List.map_map, List.map_map]
    rfl
noncomputable def hasI (n : Nat) : Dat -> Bool
  | .list es => @decide (Dat.int n ∈ es) (Classical.propDecidable _)
  | _ => false
theorem hasI_iD {n : Nat} {xs : List Int} : hasI n (iD xs) = decide ((n : Int) ∈ xs) := by
  rw [Bool.eq_iff_iff]
  show @decide (Dat.int n ∈ xs.map Dat.int) (Classical.propDecidable _) = true ↔ _
  rw [@decide_eq_true_iff (Dat.int n ∈ xs.map Dat.int) (Classical.propDecidable _)]
  exact (mem_ints (r := decide ((n : Int) ∈ xs)) rfl).symm
theorem hasI_filter {n : Nat} {xss : List (List Int)} : (xss.map iD).filter (hasI n) = (xss.filter fun xs => decide ((n : Int) ∈ xs)).map iD := by
  rw [List.filter_map]
  congr 1
  exact List.filter_congr fun x _ => hasI_iD
end
end D
section
namespace K79
open PySem L2 Num K0 D
open PySem.W (Dat)
noncomputable def top (i : Nat) : Stmt := PySem.Challenge.pw_hangrings_k79_whole_no_calmer_way.main.body.getD i (.Pass ⟨0, 0, 0, 0⟩)
noncomputable abbrev sCD : Stmt := top 1
noncomputable abbrev sRed : Stmt := top 2
noncomputable abbrev sIsLess : Stmt := top 4
noncomputable abbrev sSize : Stmt := top 6
noncomputable abbrev sRestBetw : Stmt := top 8
noncomputable abbrev sStep : Stmt := top 9
noncomputable abbrev sBeyP : Stmt := top 10
noncomputable abbrev sNearB : Stmt := top 11
noncomputable abbrev sLotOf : Stmt := top 14
noncomputable abbrev sLots : Stmt := top 15
noncomputable abbrev sMixed4 : Stmt := top 17
noncomputable abbrev sPurse4 : Stmt := top 18
noncomputable abbrev sDraw : Stmt := top 19
noncomputable abbrev sNumber4 : Stmt := top 20
noncomputable abbrev sRow4 : Stmt := top 21
noncomputable abbrev sDiv : Stmt := top 22
noncomputable abbrev sLPlain5 : Stmt := top 23
noncomputable abbrev sThen4 : Stmt := top 24
noncomputable abbrev sBack4 : Stmt := top 25
noncomputable abbrev sLowest4 : Stmt := top 26
noncomputable abbrev sRest4 : Stmt := top 27
noncomputable abbrev sStepQ : Stmt := top 28
noncomputable abbrev sLLess : Stmt := top 29
noncomputable abbrev sStandsT : Stmt := top 30
noncomputable abbrev sBest : Stmt := top 31
noncomputable abbrev sLonger : Stmt := top 32
noncomputable abbrev sLotsR : Stmt := top 33
noncomputable abbrev sLaw : Stmt := top 34
noncomputable abbrev sSop : Stmt := top 3
noncomputable abbrev sCalm : Stmt := top 12
noncomputable abbrev sTraced : Stmt := top 13
local macro_rules | `(tactic| walk_at "bt") => `(tactic| (repeat' (first | assumption | exact bt2 | apply Bt.mul | apply Bt.add' | apply Bt.sub' | apply Bt.neg' | exact bd_lit (k := 64) (by decide))))
local macro_rules | `(tactic| walk_at "au3") => `(tactic| (repeat' (first | exact E1.var rfl | exact E1.varP rfl | exact E1.int | exact E1.bl | exact E1.non | exact E1.str | exact A1.nil | exact O1.none | exact E1.ty | exact T1.all | exact E1.varO rfl | exact E1.varL rfl | apply A1.cons | apply E1.add | apply E1.sub | apply E1.mul | apply E1.neg | apply E1.pow | apply E1.ixT | apply E1.tu | apply E1.li | apply E1.sl1 | apply O1.some | apply T1.test | apply T1.val | apply T1.not | apply T1.and1 | apply T1.or1 | apply E1.eq | apply E1.ne | apply E1.lt | apply E1.le | apply E1.gt | apply E1.ge | apply E1.cSop | apply E1.tupleL | apply E1.su | apply E1.vwo | apply E1.comp3 | apply Wk.r3 | apply Wk.tup | rfl | exact lsz (n := 2) rfl z2 | exact lsz (n := 3) rfl z3 | exact lsz (n := 4) rfl z4 | exact lsz (n := 1) rfl z1 | exact lsz (n := 0) rfl z0 | exact cpow10 (by decide) (by decide) | exact Bt.mulOk (x := _) (y := _) (by walk_at "bt") (by walk_at "bt") (by decide) (by decide))))
section
variable {P : Program} {w : World} {K : PySem.W.Frag} {mg : Str -> Option Value} {base : Heap} {f g g2 g3 g4 g5 g6 : Addr} {fd gd gd2 gd3 gd4 gd5 gd6 : FuncData}
theorem scCD : FnScope ["numbers", "divisor", "number", "other", "left"] ["numbers"] (defScope sCD) := ⟨rfl, rfl, rfl, by decide +kernel, rfl, by decide +kernel, by decide +kernel⟩
theorem ok_cd (F : Fun K "common_divisor" "common_divisor" sCD f fd) (ma : mg "abs" = none) : FnOk P w K mg base CX0 1 f fd ["numbers"] (spCD K) := by
  refine F.okZ scCD (fun vs H Q E h => ?_) (fun cdv A outer s H vs Q E hr h => ?_)
  . obtain ⟨a, ns, rfl, _⟩ := h; rfl
  obtain ⟨a, ns, rfl, hS, q⟩ := h
  refine ⟨_, zss_cons (zs_set (i := 1) scCD.nd rfl (Or.inl rfl) ze_int) (zss_cons (zs_for PassesOwn.never rfl (zi_tup (zv 0)) (zg_name (i := 2) scCD.nd rfl (Or.inl rfl))
      (zss_cons (zs_set (i := 3) scCD.nd rfl (Or.inl rfl) (ze_callB call_abs rfl ma (by rfl) (za_cons (zv 2) za_nil)))
        (zss_one (zs_while PassesOwn.never (zt_cmpR op_ne (zv 3) ze_int (nomark _)) (zss_cons (zs_set (i := 4) scCD.nd rfl (Or.inl rfl) (ze_op op_mod (zv 1) (zv 3)))
          (zss_cons (zs_set (i := 1) scCD.nd rfl (Or.inl rfl) (zv 3)) (zss_one (zs_set (i := 3) scCD.nd rfl (Or.inl rfl) (zv 4)))))))))
      (zss_one (zs_ret (zv 1)))), ?_⟩
  refine ⟨_, rfl, a, rfl, ⟨_, hS⟩, for_tup (xs := ns.map V.int) (fun i σ H' => H = H' /\ ∃ nn o l, σ = [some (.ref a), some (.int (gcdN (ns.take i))), nn, o, l])
    ⟨rfl, _, _, _, rfl⟩ (fun i σ H' _ h => h.1 ▸ hS) (fun i x σ H' hx h => ?_) (fun σ H' h => ?_)⟩
  . obtain ⟨rfl, nn, o, l, rfl⟩ := h
    rw [List.getElem?_map] at hx
    cases hn : ns[i]? with
    | none => rw [hn] at hx; cases hx
    | some n =>
      rw [hn] at hx
      cases hx
      refine ⟨_, rfl, n, rfl, ?_⟩
      have tk : ns.take (i + 1) = ns.take i ++ [n] := by rw [List.take_add_one, hn]; rfl
      refine while_by (fun σ H' => H = H' /\ ∃ (d o : Int) (l : Option V), 0 <= d /\ 0 <= o /\ Nat.gcd d.toNat o.toNat = gcdN (ns.take (i + 1)) /\ σ = [some (.ref a), some (.int d), some (.int n), some (.int o), l])
        (fun σ _ => match σ with | [_, _, _, some (.int o), _] => o.toNat | _ => 0) ⟨rfl, _, _, _, by omega, by split <;> omega, ?_, rfl⟩ (fun σ H' h => ?_) (fun σ H Q Q' hq h => ?_)
      . rw [tk, gcdN_snoc]
        congr 1
        split <;> omega
      . obtain ⟨rfl, d, o, l, hd, ho, hg, rfl⟩ := h
        refine ⟨_, rfl, rfl, _, rfl, ?_⟩
        refine ite2 (fun c => ?_) (fun c => ?_)
        . have hne : o ≠ 0 := by
            intro z; subst z; exact absurd c (by decide)
          refine ⟨_, rfl, _, rfl, _, _, rfl, rfl, by omega, _, rfl, _, rfl, ⟨rfl, _, _, _, ho, Int.emod_nonneg _ hne, ?_, rfl⟩, ?_⟩
          . rw [<- hg]; exact gcd_step hd (by omega)
          . show (d % o).toNat < o.toNat
            have := Int.emod_lt_of_pos d (show 0 < o by omega)
            have := Int.emod_nonneg d hne
            omega
        . have h0 : o = 0 := by
            by_cases z : o = 0
            . exact z
            . exact absurd (by show (!decide (V.int o = V.int 0)) = true; rw [decide_eq_false (fun e => z (by injection e))]; rfl) c
          subst h0
          refine ⟨rfl, some (.int n), some (.int 0), l, ?_⟩
          have e : (d.toNat : Int) = d := by omega
          rw [<- hg]
          simp only [Int.toNat_zero, Nat.gcd_zero_right, e]
      . obtain ⟨v, e1, e2, b, e3, q⟩ := h
        exact ⟨v, e1, e2, b, e3, hq _ _ q⟩
  . obtain ⟨rfl, nn, o, l, rfl⟩ := h
    rw [List.length_map, List.take_length]
    exact ⟨_, rfl, q⟩
theorem scRed : FnScope ["numbers", "divisor"] ["numbers"] (defScope sRed) := ⟨rfl, rfl, rfl, by decide +kernel, rfl, by decide +kernel, by decide +kernel⟩
theorem ok_red (F : Fun K "reduced" "reduced" sRed f fd) (G : FnOk P w K mg base CX0 1 g gd ["numbers"] (spCD K)) (bG : Binds K gd ["numbers"] []) (kG : PySem.W.keepIn K (.ref g) = true) (mG : mg "common_divisor" = some (.ref g)) (mt : mg "tuple" = none) :
    FnOk P w K mg base CX0 2 f fd ["numbers"] (spT K (fun ns => (∃ n ∈ ns, n ≠ 0) /\ Sm ns) red) := by
  refine F.okZ scRed (fun vs H Q E h => ?_) (fun cdv A outer s H vs Q E hr h => ?_)
  . obtain ⟨a, ns, rfl, _⟩ := h; rfl
  obtain ⟨a, ns, rfl, hS, hl, ⟨hnz, hsm⟩, q⟩ := h
  refine ⟨_, zss_cons (zs_set (i := 1) scRed.nd rfl (Or.inr rfl) (ze_call G hr rfl mG kG bG .nil pass0 (za_cons (zv 0) za_nil)))
    (zss_one (zs_ret (ze_callTy call_tuple_of rfl mt (by rfl) (za_cons (ze_comp (own := ["number"]) scRed rfl ⟨by decide +kernel, rfl, by decide +kernel, by decide +kernel, by decide +kernel, by decide +kernel, by decide +kernel, by decide +kernel, by decide +kernel⟩ (zi_tup (zv 0))
      (fun C fp s H nd => zg_name (i := 0) nd rfl (Or.inl rfl)) (fun C fp s H => zts_nil) (fun C fp s H => ze_op op_fdivB (zv 0) (zv 2))) za_nil)))), ?_⟩
  refine ⟨_, rfl, a, ns, rfl, hS, ?_⟩
  refine ⟨_, rfl, a, rfl, ⟨_, hS⟩, ?_⟩
  have gp := gcdN_pos hnz
  refine comp_tup (K := K) (((red ns).map PySem.W.Dat.int)) hS (by simp [red]) (by rw [List.length_map]; exact Nat.le_of_lt (small1000 hl)) (fun i x H' d hx hd hs => ?_) (fun σ' H2 Q1 Q2 hq h => ?_) (fun D H' ys hs hy hD hf => ?_)
  . rw [List.getElem?_map] at hx hd
    unfold red at hd
    rw [List.getElem?_map] at hd
    cases e : ns[i]? with
    | none => rw [e] at hx; cases hx
    | some n =>
      rw [e] at hx hd
      cases hx; cases hd
      refine ⟨_, rfl, _, rfl, n, _, rfl, rfl, ⟨by omega, gcd_small hnz hsm⟩, Same.refl _, ?_⟩
      dsimp only
      rw [Int.fdiv_eq_ediv_of_nonneg _ (by omega)]
      exact .int _
  . obtain ⟨v1, e1, v2, e2, i, j, e3, e4, e5, q⟩ := h
    exact ⟨v1, e1, v2, e2, i, j, e3, e4, e5, hq _ _ q⟩
  . refine ⟨D, ys, rfl, .inl ⟨SqL.of hy, fun l hl' => ?_⟩⟩
    refine q l _ (hs.trans (Same.new hl' _)) ?_
    rw [Fzs.ints_inv hf]
    exact upd_same
theorem scIsLess : FnScope ["one", "other"] ["one", "other"] (defScope sIsLess) := ⟨rfl, rfl, rfl, by decide +kernel, rfl, by decide +kernel, by decide +kernel⟩
theorem ok_isless (F : Fun K "is_less" "is_less" sIsLess f fd) :
    FnOk P w K mg base CX0 1 f fd ["one", "other"] (spP K RLess) := by
  refine okP F scIsLess (fun ds d h => ?_) (fun cdv A0 outer s0 H0 E0 hr => ?_)
  . obtain ⟨a, b, c, e, rfl, _⟩ := h; rfl
  refine ⟨_, (zss_one (zs_ret (ze_cmpR op_lt (ze_op op_mulB (ze_ix ix_tup (zv 0) ze_int (fun _ _ => rfl)) (ze_ix ix_tup (zv 1) ze_int (fun _ _ => rfl))) (ze_op op_mulB (ze_ix ix_tup (zv 1) ze_int (fun _ _ => rfl)) (ze_ix ix_tup (zv 0) ze_int (fun _ _ => rfl))) (nomark _)))), fun ds d h => ?_⟩
  obtain ⟨a, b, c, e, rfl, hb, hd, b1, b2, b3, b4, rfl⟩ := h
  have he : decide (a * e < c * b) = decide (qv a b < qv c e) := by rw [decide_eq_decide, qv_lt hb hd]
  exact S.ret1 (s := .dat (.bool (decide (qv a b < qv c e)))) (E1.to (E1.lt (E1.mul (E1.ixT (E1.var rfl) E1.int rfl) (E1.ixT (E1.var rfl) E1.int rfl) (b1.mulOk b4)) (E1.mul (E1.ixT (E1.var rfl) E1.int rfl) (E1.ixT (E1.var rfl) E1.int rfl) (b3.mulOk b2))) (by rw [he])) ⟨rfl, rfl⟩
theorem scSize : FnScope ["four"] ["four"] (defScope sSize) := ⟨rfl, rfl, rfl, by decide +kernel, rfl, by decide +kernel, by decide +kernel⟩
theorem ok_size (F : Fun K "size" "size" sSize f fd) (G : FnOk P w K mg base CX0 1 g gd ["one", "other"] (spSop K)) (bG : Binds K gd ["one", "other"] []) (kG : PySem.W.keepIn K (.ref g) = true) (mG : mg "sum_of_products" = some (.ref g)) : FnOk P w K mg base CX0 2 f fd ["four"] (spSize K) := by
  refine F.okZ scSize (fun vs H Q E h => ?_) (fun cdv A outer s H vs Q E hr h => ?_)
  . obtain ⟨a, ns, rfl, _⟩ := h; rfl
  obtain ⟨a, ns, rfl, hS, hl, sm, q⟩ := h
  refine ⟨_, zss_one (zs_ret (ze_call G hr rfl mG kG bG .nil pass0 (za_cons (zv 0) (za_cons (zv 0) za_nil)))), ?_⟩
  exact ⟨_, rfl, _, rfl, a, a, ns, ns, rfl, hS, hS, hl, rfl, sm, sm, q⟩
theorem scRestBetw : FnScope ["one", "other", "ahead"] ["one", "other"] (defScope sRestBetw) := ⟨rfl, rfl, rfl, by decide +kernel, rfl, by decide +kernel, by decide +kernel⟩
theorem ok_restbetw (F : Fun K "rest_between" "rest_between" sRestBetw f fd)
    (G : FnOk P w K mg base CX0 1 g gd ["one", "other"] (spSop K)) (bG : Binds K gd ["one", "other"] []) (kG : PySem.W.keepIn K (.ref g) = true) (mG : mg "sum_of_products" = some (.ref g))
    (G2 : FnOk P w K mg base CX0 2 g2 gd2 ["four"] (spSize K)) (bG2 : Binds K gd2 ["four"] []) (kG2 : PySem.W.keepIn K (.ref g2) = true) (mG2 : mg "size" = some (.ref g2)) :
    FnOk P w K mg base CX0 3 f fd ["one", "other"] (spP K RBetw) := by
  refine okP F scRestBetw (fun ds d h => ?_) (fun cdv A0 outer s0 H0 E0 hr => ?_)
  . obtain ⟨ns, ms, rfl, _⟩ := h; rfl
  have r := hr.mono (show 1 <= 2 by decide)
  have r2 := hr.mono (show 2 <= 2 by decide)
  refine ⟨_, (zss_cons (zs_set (i := 2) scRestBetw.nd rfl (Or.inl rfl) (ze_call G r rfl mG kG bG .nil pass0 (za_n (zv 0) (za_n (zv 1) za_nil))))
    (zss_one (zs_ret (ze_tup (za_b (ze_op op_mulB (zv 2) (zv 2)) (za_b (ze_op op_mulB (ze_call G2 r2 rfl mG2 kG2 bG2 .nil pass0 (za_n (zv 0) za_nil)) (ze_call G2 r2 rfl mG2 kG2 bG2 .nil pass0 (za_n (zv 1) za_nil))) za_nil)))))), fun ds d h => ?_⟩
  obtain ⟨ns, ms, rfl, f1, f2, rfl⟩ := h
  have bs : Bt (sop ns ms) 2003 := sop_bt f1 f2
  have b1 : Bt (nrm ns) 2003 := by obtain ⟨a, b, c, e, rfl⟩ := four_of f1.1; exact nrm_btG f1.2.2
  have b2 : Bt (nrm ms) 2003 := by obtain ⟨a, b, c, e, rfl⟩ := four_of f2.1; exact nrm_btG f2.2.2
  have l1 : ns.length <= 1000 := by rw [f1.1]; decide
  have l2 : ms.length <= 1000 := by rw [f2.1]; decide
  refine S.let1 (s := .dat (.int (sop ns ms))) (E1.cSop (A1.cons (E1.var rfl) (A1.cons (E1.var rfl) A1.nil)) l1 (by rw [f1.1, f2.1]) (sm_bd' f1.2.2) (sm_bd' f2.2.2)) ?_
  exact S.ret1 (s := .dat (tI [sop ns ms * sop ns ms, nrm ns * nrm ms])) (E1.tu (A1.cons (E1.mul (E1.var rfl) (E1.var rfl) (bs.mulOk bs)) (A1.cons (E1.mul (E1.to (E1.cSize (A1.cons (E1.var rfl) A1.nil) l1 (sm_bd' f1.2.2)) (by rw [sop_nrm f1.1])) (E1.to (E1.cSize (A1.cons (E1.var rfl) A1.nil) l2 (sm_bd' f2.2.2)) (by rw [sop_nrm f2.1])) (b1.mulOk b2)) A1.nil)) rfl (lsz (n := 2) rfl z2)) ⟨rfl, rfl⟩
theorem scStep : FnScope ["stands", "one", "other"] ["stands", "one", "other"] (defScope sStep) := ⟨rfl, rfl, rfl, by decide +kernel, rfl, by decide +kernel, by decide +kernel⟩
theorem ok_step (F : Fun K "step" "step" sStep f fd)
    (G : FnOk P w K mg base CX0 2 g gd ["numbers"] (spT K (fun ns => (∃ n ∈ ns, n ≠ 0) /\ Sm ns) red)) (bG : Binds K gd ["numbers"] []) (kG : PySem.W.keepIn K (.ref g) = true) (mG : mg "reduced" = some (.ref g))
    (G2 : FnOk P w K mg base CX0 3 g2 gd2 ["one", "other"] (spP K RBetw)) (bG2 : Binds K gd2 ["one", "other"] []) (kG2 : PySem.W.keepIn K (.ref g2) = true) (mG2 : mg "rest_between" = some (.ref g2)) :
    FnOk P w K mg base CX0 4 f fd ["stands", "one", "other"] (spP K RStep) := by
  refine okP F scStep (fun ds d h => ?_) (fun cdv A0 outer s0 H0 E0 hr => ?_)
  . obtain ⟨fs, i, j, f0, g0, rfl, _⟩ := h; rfl
  have r := hr.mono (show 2 <= 3 by decide)
  have r2 := hr.mono (show 3 <= 3 by decide)
  refine ⟨_, (zss_one (zs_ret (ze_call G r rfl mG kG bG .nil pass0 (za_c (ze_call G2 r2 rfl mG2 kG2 bG2 .nil pass0 (za_s (ze_ix ix_list (zv 0) (zv 1) (fun _ _ => rfl)) (za_s (ze_ix ix_list (zv 0) (zv 2) (fun _ _ => rfl)) za_nil))) za_nil)))), fun ds d h => ?_⟩
  obtain ⟨fs, i, j, f0, g0, rfl, st, hi, hj, rfl⟩ := h
  have f1 := st f0 (List.mem_of_getElem? hi)
  have f2 := st g0 (List.mem_of_getElem? hj)
  have p1 := nrm_pos f1.1 f1.2.1
  have p2 := nrm_pos f2.1 f2.2.1
  have pp := Int.mul_pos p1 p2
  have bs : Bt (sop f0 g0) 2003 := sop_bt f1 f2
  have b1 : Bt (nrm f0) 2003 := by obtain ⟨a, b, c, e, rfl⟩ := four_of f1.1; exact nrm_btG f1.2.2
  have b2 : Bt (nrm g0) 2003 := by obtain ⟨a, b, c, e, rfl⟩ := four_of f2.1; exact nrm_btG f2.2.2
  exact S.ret1 (s := .dat (tI (rb f0 g0))) (E1.cT (fn := red) (ns := [sop f0 g0 * sop f0 g0, nrm f0 * nrm g0]) (A1.cons (E1.call (R := RBetw) (ds := [tI f0, tI g0]) (A1.cons (E1.ixL (E1.varL rfl) (E1.var rfl) (atI_nat (st_at hi))) (A1.cons (E1.ixL (E1.varL rfl) (E1.var rfl) (atI_nat (st_at hj))) A1.nil)) ⟨_, _, rfl, f1, f2, rfl⟩) A1.nil) (by show 2 <= 1000; decide) ⟨⟨nrm f0 * nrm g0, by simp, by omega⟩, sm2 (x := 4006) (bs.mul bs) (b1.mul b2)⟩) ⟨rfl, noLs_ints _⟩
theorem scBeyP : FnScope ["stands", "inside"] ["stands", "inside"] (defScope sBeyP) := ⟨rfl, rfl, rfl, by decide +kernel, rfl, by decide +kernel, by decide +kernel⟩
theorem ok_beyp (F : Fun K "places_beyond" "places_beyond" sBeyP f fd) (m_range : mg "range" = none) (m_len : mg "len" = none) :
    FnOk P w K mg base CX0 1 f fd ["stands", "inside"] (spP K RBeyP) := by
  refine okP F scBeyP (fun ds d h => ?_) (fun cdv A0 outer s0 H0 E0 hr => ?_)
  . obtain ⟨fs, ins, rfl, _⟩ := h; rfl
  refine ⟨_, (zss_one (zs_ret (ze_comp (own := ["place"]) scBeyP rfl ⟨by decide +kernel, rfl, by decide +kernel, by decide +kernel, by decide +kernel, by decide +kernel, by decide +kernel, by decide +kernel, by decide +kernel⟩ (zi_range1 rfl m_range (za_c (ze_callB call_len_seq rfl m_len PySem.boot_len (za_n (zv 0) za_nil)) za_nil)) (fun C fp s H nd => zg_name (i := 0) nd rfl (Or.inl rfl)) (fun C fp s H => zts_one (zt_cmpR (op_notInDC hr.units) (zv 0) (zv 2) (by with_unfolding_all rfl))) (fun C fp s H => (zv 0))))), fun ds d h => ?_⟩
  obtain ⟨fs, ins, rfl, hn, rfl⟩ := h
  have hz : (nI (List.range fs.length)).length <= sizeLine := by rw [len_nI, List.length_range]; exact Nat.le_trans hn (by decide)
  refine S.ret1 (s := .own ((nI (bey fs.length ins)).map .int)) (E1.to (E1.compIF (ns := nI (List.range fs.length)) (kp := fun m => !decide (m ∈ ins)) (rangeD_nI fs.length ▸ Wk.rng (j := (fs.length : Int)) (n := fs.length) (A1.cons (E1.to (E1.lenL (A1.cons (E1.varL rfl) A1.nil)) (by rw [List.length_map])) A1.nil) (by omega) (by omega) (by omega)) (fun n hn => T1.test (E1.notInD (E1.var rfl) (E1.var rfl) rfl rfl rfl kq8_ints (mem_ints rfl))) (fun n hn => (E1.var rfl)) hz) (by rw [bey_nI])) ⟨rfl, noLs_ints _⟩
theorem scNearB : FnScope ["stands", "inside", "best", "most", "one", "other", "rest"] ["stands", "inside"] (defScope sNearB) := ⟨rfl, rfl, rfl, by decide +kernel, rfl, by decide +kernel, by decide +kernel⟩
theorem ok_nearb (F : Fun K "nearest_beyond" "nearest_beyond" sNearB f fd)
    (G : FnOk P w K mg base CX0 1 g gd ["stands", "inside"] (spP K RBeyP)) (bG : Binds K gd ["stands", "inside"] []) (kG : PySem.W.keepIn K (.ref g) = true) (mG : mg "places_beyond" = some (.ref g))
    (G2 : FnOk P w K mg base CX0 3 g2 gd2 ["one", "other"] (spP K RBetw)) (bG2 : Binds K gd2 ["one", "other"] []) (kG2 : PySem.W.keepIn K (.ref g2) = true) (mG2 : mg "rest_between" = some (.ref g2))
    (G3 : FnOk P w K mg base CX0 1 g3 gd3 ["one", "other"] (spP K RLess)) (bG3 : Binds K gd3 ["one", "other"] []) (kG3 : PySem.W.keepIn K (.ref g3) = true) (mG3 : mg "is_less" = some (.ref g3)) :
    FnOk P w K mg base CX0 4 f fd ["stands", "inside"] (spQ K RNearB) := by
  refine okQ F scNearB (fun ds d h => ?_) (fun cdv A0 outer s0 H0 E0 hr => ?_)
  . obtain ⟨fs, ins, rfl, _⟩ := h; rfl
  have r := hr.mono (show 1 <= 3 by decide)
  have r2 := hr.mono (show 3 <= 3 by decide)
  have r3 := hr.mono (show 1 <= 3 by decide)
  refine ⟨_, (zss_cons (zs_set (i := 2) scNearB.nd rfl (Or.inl rfl) ze_non)
    (zss_cons (zs_set (i := 3) scNearB.nd rfl (Or.inl rfl) (ze_tup (za_u (ze_un un_neg ze_int) (za_i za_nil))))
    (zss_cons (zs_for PassesOwn.never rfl (zi_list (zv 1)) (zg_name (i := 4) scNearB.nd rfl (Or.inl rfl)) (zss_one (zs_for PassesOwn.never rfl (zi_list (ze_call G r rfl mG kG bG .nil pass0 (za_n (zv 0) (za_n (zv 1) za_nil)))) (zg_name (i := 5) scNearB.nd rfl (Or.inl rfl)) (zss_cons (zs_set (i := 6) scNearB.nd rfl (Or.inl rfl) (ze_call G2 r2 rfl mG2 kG2 bG2 .nil pass0 (za_s (ze_ix ix_list (zv 0) (zv 4) (fun _ _ => rfl)) (za_s (ze_ix ix_list (zv 0) (zv 5) (fun _ _ => rfl)) za_nil))))
    (zss_one (zs_if (zt_val (ze_call G3 r3 rfl mG3 kG3 bG3 .nil pass0 (za_n (zv 3) (za_n (zv 6) za_nil)))) (zss_cons (zs_set (i := 2) scNearB.nd rfl (Or.inl rfl) (ze_tup (za_n (zv 4) (za_n (zv 5) za_nil))))
    (zss_one (zs_set (i := 3) scNearB.nd rfl (Or.inl rfl) (zv 6)))) zss_nil))))))
    (zss_one (zs_ret (zv 2)))))), fun ds C h => ?_⟩
  obtain ⟨fs, ins, rfl, st, hn, iz, ne, nb, rfl⟩ := h
  generalize hbe : bey fs.length (nI ins) = be at nb
  refine S.let1 (s := .dat .none) E1.non ?_
  refine S.let1 (s := .dat (tI [-1, 1])) (E1.tu (A1.cons (E1.neg E1.int) (A1.cons E1.int A1.nil)) rfl (lsz (n := 2) rfl z2)) ?_
  refine S.seq (M := fun τ' => ∃ (best most : Dat) (o1 o2 o3 : Sl), Bst fs (fun i j => i ∈ ins /\ j ∈ be) best most /\ τ' = [.dat (stD fs), .dat (iD (nI ins)), .dat best, .dat most, o1, o2, o3]) ?_ fun τ' ⟨best, most, o1, o2, o3, hB, eτ⟩ => ?_
  . refine S.for (Wk.lst (E1.var rfl)) (fun k τ' => ∃ (best most : Dat) (o1 o2 o3 : Sl), Bst fs (fun i j => i ∈ ins.take k /\ j ∈ be) best most /\ τ' = [.dat (stD fs), .dat (iD (nI ins)), .dat best, .dat most, o1, o2, o3]) ⟨_, _, _, _, _, Bst.start.mono fun a c => ⟨fun h => (by simpa using h.1), fun h => h.elim⟩, rfl⟩ (fun k d τ1 hd ⟨best, most, o1, o2, o3, hB, e1⟩ => ?_) (fun τ1 ⟨best, most, o1, o2, o3, hB, e1⟩ => ⟨best, most, o1, o2, o3, hB.mono fun a c => (by rw [List.length_map, len_nI, List.take_length]), e1⟩)
    subst e1
    obtain ⟨i, hi, rfl⟩ := nI_get hd
    have i1 := iz.lt i (List.mem_of_getElem? hi)
    obtain ⟨f, hf⟩ : ∃ f, fs[i]? = some f := ⟨_, List.getElem?_eq_getElem i1⟩
    refine ⟨_, Gd.name, ?_⟩
    refine S.for (ds := (nI be).map .int) (Wk.lst (E1.call (R := RBeyP) (ds := [stD fs, iD (nI ins)]) (A1.cons (E1.var rfl) (A1.cons (E1.var rfl) A1.nil)) ⟨fs, nI ins, rfl, hn, by rw [hbe]; rfl⟩)) (fun m τ' => ∃ (best most : Dat) (o2 o3 : Sl), Bst fs (fun a c => (a ∈ ins.take k /\ c ∈ be) \/ (a = i /\ c ∈ be.take m)) best most /\ τ' = [.dat (stD fs), .dat (iD (nI ins)), .dat best, .dat most, .dat (.int i), o2, o3]) ⟨_, _, _, _, hB.mono fun a c => ⟨fun h => h.elim id fun z => (by simp at z), .inl⟩, rfl⟩ (fun m d τ1 hd ⟨best, most, o2, o3, hB, e1⟩ => ?_) (fun τ1 ⟨best, most, o2, o3, hB, e1⟩ => ⟨best, most, _, _, _, hB.mono fun a c => ?_, e1⟩)
    . subst e1
      obtain ⟨j, hj, rfl⟩ := nI_get hd
      have jb : j ∈ be := List.mem_of_getElem? hj
      have j1 : j < fs.length := by rw [<- hbe] at jb; exact (mem_bey.mp jb).1
      obtain ⟨g, hg⟩ : ∃ g, fs[j]? = some g := ⟨_, List.getElem?_eq_getElem j1⟩
      have f1 := st f (List.mem_of_getElem? hf)
      have f2 := st g (List.mem_of_getElem? hg)
      have pr := pr_betw st hf hg
      refine ⟨_, Gd.name, ?_⟩
      refine S.let1 (s := .dat (tI [sop f g * sop f g, nrm f * nrm g])) (E1.call (R := RBetw) (ds := [tI f, tI g]) (A1.cons (E1.ixL (E1.varL rfl) (E1.var rfl) (atI_nat (st_at hf))) (A1.cons (E1.ixL (E1.varL rfl) (E1.var rfl) (atI_nat (st_at hg))) A1.nil)) ⟨_, _, rfl, f1, f2, rfl⟩) ?_
      have tk : ∀ a c, ((a ∈ ins.take k /\ c ∈ be) \/ (a = i /\ c ∈ be.take (m + 1))) ↔ (((a ∈ ins.take k /\ c ∈ be) \/ (a = i /\ c ∈ be.take m)) \/ (a = i /\ c = j)) := fun a c => by
        rw [List.take_add_one, hj, List.mem_append]
        simp only [Option.toList_some, List.mem_singleton]
        constructor
        . rintro (h | ⟨h, h2 | h2⟩)
          . exact .inl (.inl h)
          . exact .inl (.inr ⟨h, h2⟩)
          . exact .inr ⟨h, h2⟩
        . rintro ((h | ⟨h, h2⟩) | ⟨h, h2⟩)
          . exact .inl h
          . exact .inr ⟨h, .inl h2⟩
          . exact .inr ⟨h, .inr h2⟩
      obtain ⟨t0, b0, q0, em, p0, _⟩ := id hB
      subst em
      have val : ∀ q, (∃ t b, tI [t0, b0] = tI [t, b] /\ Pr q t b) -> q = q0 := fun q ⟨t, b, e, pq⟩ => by
        have e := tI_inj e
        cases e
        rw [<- pq.2.2.2, p0.2.2.2]
      refine S.if1 (T1.val (E1.call (R := RLess) (ds := [tI [t0, b0], tI [sop f g * sop f g, nrm f * nrm g]]) (d := .bool (decide (q0 < rho fs i j))) (A1.cons (E1.var rfl) (A1.cons (E1.var rfl) A1.nil)) ⟨_, _, _, _, rfl, p0.1, pr.1, p0.2.1.up (by decide), p0.2.2.1.up (by decide), pr.2.1.up (by decide), pr.2.2.1.up (by decide), by rw [p0.2.2.2, pr.2.2.2]⟩)) (fun h => ?_) (fun h => S.next ⟨_, _, _, _, hB.no (rho_nn st i1 j1) (fun q hq => by rw [val q hq]; exact of_decide_eq_false h) tk, rfl⟩)
      refine S.let1 (s := .dat (tI [(i : Int), (j : Int)])) (E1.tu (A1.cons (E1.var rfl) (A1.cons (E1.var rfl) A1.nil)) rfl (lsz (n := 2) rfl z2)) ?_
      exact S.asg1 (E1.var rfl) ⟨_, _, _, _, hB.yes pr (fun q hq => by rw [val q hq]; exact of_decide_eq_true h) tk, rfl⟩
    . have lb : ((nI be).map Dat.int).length = be.length := by rw [List.length_map, len_nI]
      rw [lb, List.take_length, List.take_add_one, hi, List.mem_append]
      simp only [Option.toList_some, List.mem_singleton]
      constructor
      . rintro ⟨h | h, h2⟩
        . exact .inl ⟨h, h2⟩
        . exact .inr ⟨h, h2⟩
      . rintro (⟨h, h2⟩ | ⟨h, h2⟩)
        . exact ⟨.inl h, h2⟩
        . exact ⟨.inr h, h2⟩
  subst eτ
  rw [<- hbe] at nb
  rw [<- hbe] at hB
  obtain ⟨i, j, rfl, out⟩ := hB.out ne nb
  exact S.ret1 (E1.var rfl) ⟨_, ⟨i, j, rfl, out⟩, rfl, noLs_ints _⟩
theorem scLotOf : FnScope ["stands", "first", "rest", "lot", "edge", "here", "beyond", "near"] ["stands", "first", "rest"] (defScope sLotOf) := ⟨rfl, rfl, rfl, by decide +kernel, rfl, by decide +kernel, by decide +kernel⟩
theorem ok_lotof (F : Fun K "lot_of" "lot_of" sLotOf f fd)
    (G : FnOk P w K mg base CX0 1 g gd ["stands", "inside"] (spP K RBeyP)) (bG : Binds K gd ["stands", "inside"] []) (kG : PySem.W.keepIn K (.ref g) = true) (mG : mg "places_beyond" = some (.ref g))
    (G2 : FnOk P w K mg base CX0 1 g2 gd2 ["one", "other"] (spP K RLess)) (bG2 : Binds K gd2 ["one", "other"] []) (kG2 : PySem.W.keepIn K (.ref g2) = true) (mG2 : mg "is_less" = some (.ref g2))
    (G3 : FnOk P w K mg base CX0 3 g3 gd3 ["one", "other"] (spP K RBetw)) (bG3 : Binds K gd3 ["one", "other"] []) (kG3 : PySem.W.keepIn K (.ref g3) = true) (mG3 : mg "rest_between" = some (.ref g3)) (m_len : mg "len" = none) (m_sorted : mg "sorted" = none) :
    FnOk P w K mg base CX0 4 f fd ["stands", "first", "rest"] (spN K RLotOf) := by
  refine okN F scLotOf (fun ds d h => ?_) (fun cdv A0 outer s0 H0 E0 hr => ?_)
  . obtain ⟨fs, first, a, b, rfl, _⟩ := h; rfl
  have r := hr.mono (show 1 <= 3 by decide)
  have r2 := hr.mono (show 1 <= 3 by decide)
  have r3 := hr.mono (show 3 <= 3 by decide)
  refine ⟨_, (zss_cons (zs_set (i := 3) scLotOf.nd rfl (Or.inl rfl) (ze_lst (za_n (zv 1) za_nil)))
    (zss_cons (zs_set (i := 4) scLotOf.nd rfl (Or.inl rfl) (ze_lst (za_n (zv 1) za_nil)))
    (zss_cons (zs_while PassesOwn.never (zt_cmpR op_gt (ze_callB call_len_seq rfl m_len PySem.boot_len (za_n (zv 4) za_nil)) ze_int (nomark _)) (zss_cons (zs_set (i := 5) scLotOf.nd rfl (Or.inr rfl) (ze_pop (zv 4)))
    (zss_cons (zs_set (i := 6) scLotOf.nd rfl (Or.inl rfl) (ze_call G r rfl mG kG bG .nil pass0 (za_n (zv 0) (za_n (zv 3) za_nil))))
    (zss_cons (zs_comp (i := 7) (own := ["place"]) scLotOf rfl ⟨by decide +kernel, rfl, by decide +kernel, by decide +kernel, by decide +kernel, by decide +kernel, by decide +kernel, by decide +kernel, by decide +kernel⟩ (zi_list (zv 6)) (fun C fp s H nd => zg_name (i := 0) nd rfl (Or.inl rfl)) (fun C fp s H => zts_one (zt_not (zt_val (ze_call G2 r2 rfl mG2 kG2 bG2 .nil pass0 (za_c (ze_call G3 r3 rfl mG3 kG3 bG3 .nil pass0 (za_s (ze_ix ix_listC (zv 1) (zv 6) (fun _ _ => rfl)) (za_s (ze_ix ix_listC (zv 1) (zv 0) (fun _ _ => rfl)) za_nil))) (za_n (zv 3) za_nil)))))) (fun C fp s H => (zv 0)) scLotOf.nd rfl (Or.inl rfl) rfl)
    (zss_cons (zs_expr (ze_extend (zv 3) (zv 7)))
    (zss_one (zs_expr (ze_extend (zv 4) (zv 7)))))))))
    (zss_one (zs_ret (ze_callB call_sortedI rfl m_sorted (by rfl) (za_n (zv 3) za_nil))))))), fun ds es h => ?_⟩
  obtain ⟨fs, first, a, b, rfl, st, hn, h1, b0, ba, bb, rfl⟩ := h
  refine S.letO (ds := (nI [first]).map .int) (E1.li (A1.cons (E1.var rfl) A1.nil) rfl (lsz (n := 1) rfl z1)) (noLs_ints _) ?_
  refine S.letO (ds := (nI [first]).map .int) (E1.li (A1.cons (E1.var rfl) A1.nil) rfl (lsz (n := 1) rfl z1)) (noLs_ints _) ?_
  refine S.seq (M := fun τ' => ∃ (lot edge : List Nat) (o5 o6 o7 : Sl), Lot fs (qv a b) first lot edge /\ edge = [] /\ τ' = [.dat (stD fs), .dat (.int first), .dat (tI [a, b]), .own ((nI lot).map .int), .own ((nI edge).map .int), o5, o6, o7]) ?_ fun τ' ⟨lot, edge, o5, o6, o7, l, ee, eτ⟩ => ?_
  . refine S.while (fun m τ' => ∃ (lot edge : List Nat) (o5 o6 o7 : Sl), Lot fs (qv a b) first lot edge /\ m = 2 * (fs.length - lot.length) + edge.length /\ τ' = [.dat (stD fs), .dat (.int first), .dat (tI [a, b]), .own ((nI lot).map .int), .own ((nI edge).map .int), o5, o6, o7]) (m0 := _) ⟨[first], [first], _, _, _, Lot.start h1, rfl, rfl⟩ (fun m τ1 ⟨lot, edge, o5, o6, o7, l, em, e1⟩ => ?_)
    subst e1
    have ll := nodup_le fs.length lot l.nd l.ln
    have le := nodup_of_sub l.ne l.sub
    refine ⟨_, T1.test (E1.gt (E1.lenL (A1.cons (E1.varO rfl) A1.nil)) E1.int), fun c => ?_, fun c => ?_⟩
    . have ne : edge ≠ [] := fun z => by rw [z] at c; cases c
      obtain ⟨edge0, here, rfl⟩ : ∃ e0 h, edge = e0 ++ [h] := ⟨_, _, (List.dropLast_concat_getLast ne).symm⟩
      have hh : here < fs.length := l.ln here (l.sub here (by simp))
      obtain ⟨f, hf⟩ : ∃ f, fs[here]? = some f := ⟨_, List.getElem?_eq_getElem hh⟩
      have f1 := st f (List.mem_of_getElem? hf)
      have e2 : (nI (edge0 ++ [here])).map Dat.int = (nI edge0).map Dat.int ++ [Dat.int here] := by rw [nI_app, List.map_append]; rfl
      rw [e2]
      refine S.popO (i := 4) (j := 5) (ds := (nI edge0).map .int) (d := .int here) rfl ?_
      let be := bey fs.length (nI lot)
      refine S.let1 (s := .dat (iD (nI be))) (E1.call (R := RBeyP) (ds := [stD fs, iD (nI lot)]) (A1.cons (E1.var rfl) (A1.cons (E1.varO rfl) A1.nil)) ⟨fs, nI lot, rfl, by omega, rfl⟩) ?_
      let near := be.filter fun y => !decide (rho fs here y < qv a b)
      have turn : Lot fs (qv a b) first (lot ++ near) (edge0 ++ near) := l.turn rfl
      have bl : be.length <= 60 := Nat.le_trans (List.length_filter_le _ _) (by rw [List.length_range]; exact hn)
      have nl : near.length <= 60 := Nat.le_trans (List.length_filter_le _ _) bl
      refine S.letO (ds := (nI near).map .int) (E1.to (E1.compIF (ns := nI be) (kp := fun y => !decide (rho fs here y.toNat < qv a b)) (Wk.lst (E1.var rfl)) (fun y hy => ?_) (fun y hy => (E1.var rfl)) (by rw [len_nI]; exact Nat.le_trans bl (by decide))) ?_) (noLs_ints _) ?_
      . obtain ⟨j, hj, rfl⟩ := List.mem_map.mp hy
        have j1 : j < fs.length := (mem_bey.mp hj).1
        obtain ⟨g, hg⟩ : ∃ g, fs[j]? = some g := ⟨_, List.getElem?_eq_getElem j1⟩
        have f2 := st g (List.mem_of_getElem? hg)
        have pb := pr_betw st hf hg
        exact T1.not (T1.val (E1.call (R := RLess) (ds := [tI [sop f g * sop f g, nrm f * nrm g], tI [a, b]]) (d := .bool (decide (rho fs here j < qv a b))) (A1.cons (E1.call (R := RBetw) (ds := [tI f, tI g]) (A1.cons (E1.ixL (E1.varL rfl) (E1.var rfl) (atI_nat (st_at hf))) (A1.cons (E1.ixL (E1.varL rfl) (E1.var rfl) (atI_nat (st_at hg))) A1.nil)) ⟨_, _, rfl, f1, f2, rfl⟩) (A1.cons (E1.var rfl) A1.nil)) ⟨_, _, _, _, rfl, pb.1, b0, pb.2.1.up (by decide), pb.2.2.1.up (by decide), ba, bb, by rw [pb.2.2.2]⟩))
      . unfold nI; rw [List.filter_map]; rfl
      have ll2 := nodup_le fs.length _ turn.nd turn.ln
      rw [List.length_append] at ll2
      rw [List.length_append, List.length_singleton] at le
      have z1 : ((nI lot).map Dat.int).length + ((nI near).map Dat.int).length <= sizeLine := by
        rw [List.length_map, List.length_map, len_nI, len_nI]; exact Nat.le_trans (show _ <= 120 by omega) (by decide)
      have z2 : ((nI edge0).map Dat.int).length + ((nI near).map Dat.int).length <= sizeLine := by
        rw [List.length_map, List.length_map, len_nI, len_nI]; exact Nat.le_trans (show _ <= 120 by omega) (by decide)
      refine S.seq (M := fun x => x = [.dat (stD fs), .dat (.int first), .dat (tI [a, b]), .own ((nI lot).map .int ++ (nI near).map .int), .own ((nI edge0).map .int), .dat (.int here), .dat (iD (nI be)), .own ((nI near).map .int)]) (S.extendO (i := 3) (j := 7) rfl rfl z1 rfl) fun x ex => ?_
      subst ex
      refine S.extendO (i := 4) (j := 7) rfl rfl z2 ⟨2 * (fs.length - (lot ++ near).length) + (edge0 ++ near).length, ?_, lot ++ near, edge0 ++ near, .dat (.int here), .dat (iD (nI be)), .own ((nI near).map .int), turn, rfl, ?_⟩
      . rw [em, List.length_append, List.length_append, List.length_append, List.length_singleton]; omega
      . rw [nI_app, nI_app, List.map_append, List.map_append]; rfl
    . have ee : edge = [] := by
        have c' := of_decide_eq_false c
        rw [List.length_map, len_nI] at c'
        exact List.length_eq_zero_iff.mp (by omega)
      exact ⟨lot, edge, o5, o6, o7, l, ee, rfl⟩
  subst eτ ee
  have ll := nodup_le fs.length lot l.nd l.ln
  refine S.ret (E.sortI (A1.cons (E1.varO rfl) A1.nil) (by rw [len_nI]; omega)) ?_
  rintro s ⟨ns, rfl, p1, p2⟩
  rw [l.done p1 p2]
theorem scLots : FnScope ["stands", "rest", "found", "place"] ["stands", "rest"] (defScope sLots) := ⟨rfl, rfl, rfl, by decide +kernel, rfl, by decide +kernel, by decide +kernel⟩
theorem ok_lots (F : Fun K "lots" "lots" sLots f fd)
    (G : FnOk P w K mg base CX0 4 g gd ["stands", "first", "rest"] (spN K RLotOf)) (bG : Binds K gd ["stands", "first", "rest"] []) (kG : PySem.W.keepIn K (.ref g) = true) (mG : mg "lot_of" = some (.ref g)) (m_range : mg "range" = none) (m_len : mg "len" = none) (m_any : mg "any" = none) :
    FnOk P w K mg base CX0 5 f fd ["stands", "rest"] (spO K RLots) := by
  refine okO F scLots (fun ds d h => ?_) (fun cdv A0 outer s0 H0 E0 hr => ?_)
  . obtain ⟨fs, a, b, rfl, _⟩ := h; rfl
  have r := hr.mono (show 4 <= 4 by decide)
  refine ⟨_, (zss_cons (zs_set (i := 2) scLots.nd rfl (Or.inl rfl) (ze_lst za_nil))
    (zss_cons (zs_for PassesOwn.never rfl (zi_range1 rfl m_range (za_c (ze_callB call_len_seq rfl m_len PySem.boot_len (za_n (zv 0) za_nil)) za_nil)) (zg_name (i := 3) scLots.nd rfl (Or.inr rfl)) (zss_one (zs_if (zt_not (zt_val (ze_callB (call_anyL rfl) rfl m_any (by rfl) (za_cons (ze_comp (own := ["lot"]) scLots rfl ⟨by decide +kernel, rfl, by decide +kernel, by decide +kernel, by decide +kernel, by decide +kernel, by decide +kernel, by decide +kernel, by decide +kernel⟩ (zi_list (zv 2)) (fun C fp s H nd => zg_name (i := 0) nd rfl (Or.inl rfl)) (fun C fp s H => zts_nil) (fun C fp s H => (ze_cmpR (op_inDC hr.units) (zv 4) (zv 0) (by with_unfolding_all rfl)))) za_nil)))) (zss_one (zs_expr (ze_append (zv 2) (ze_call G r rfl mG kG bG .nil pass0 (za_n (zv 0) (za_n (zv 3) (za_n (zv 1) za_nil))))))) zss_nil)))
    (zss_one (zs_ret (zv 2))))), fun ds C h => ?_⟩
  obtain ⟨fs, a, b, rfl, st, hn, b0, ba, bb, rfl⟩ := h
  have hs := adj_symm (rho_symm st) (q := qv a b)
  let ml : Nat -> List (List Int) := fun k => (((List.range k).filter (minB (adj fs (qv a b)))).map (cls (adj fs (qv a b)) fs.length)).map nI
  have mlen : ∀ k, (ml k).length <= k := fun k => by
    show ((((List.range k).filter _).map _).map nI).length <= k
    rw [List.length_map, List.length_map]; exact Nat.le_trans (List.length_filter_le _ _) (by rw [List.length_range]; exact Nat.le_refl _)
  have nls : ∀ (xss : List (List Int)), ∀ xs ∈ xss.map (fun xs => xs.map Dat.int), noLs xs = true := fun xss xs hx => by
    obtain ⟨y, _, rfl⟩ := List.mem_map.mp hx; exact noLs_ints _
  refine S.letT (o := nestO ((ml 0).map fun xs => xs.map .int)) E1.nestNil (nestO_free (nls (ml 0))).self ?_
  refine S.seq (M := fun τ' => ∃ o3 : Sl, τ' = [.dat (stD fs), .dat (tI [a, b]), .dt (nestO ((ml fs.length).map fun xs => xs.map .int)), o3]) ?_ fun τ' ⟨o3, eτ⟩ => ?_
  . refine S.for (Wk.rng (j := (fs.length : Int)) (n := fs.length) (A1.cons (E1.to (E1.lenL (A1.cons (E1.varL rfl) A1.nil)) (by rw [List.length_map])) A1.nil) (by omega) (by omega) (by omega)) (fun k τ' => ∃ o3 : Sl, τ' = [.dat (stD fs), .dat (tI [a, b]), .dt (nestO ((ml k).map fun xs => xs.map .int)), o3]) ⟨_, rfl⟩ (fun k d τ1 hd ⟨o3, e1⟩ => ?_) (fun τ1 ⟨o3, e1⟩ => ⟨o3, by rw [rangeD_len] at e1; exact e1⟩)
    subst e1
    obtain ⟨k1, rfl⟩ := rangeD_get hd
    rw [Int.zero_add]
    refine ⟨_, Gd.name, ?_⟩
    have ms : ml (k + 1) = if minB (adj fs (qv a b)) k = true then ml k ++ [nI (cls (adj fs (qv a b)) fs.length k)] else ml k := by
      show (((List.range (k + 1)).filter _).map _).map nI = _
      rw [List.range_succ, List.filter_append, List.map_append, List.map_append]
      by_cases z : minB (adj fs (qv a b)) k = true
      . rw [if_pos z, List.filter_cons_of_pos z]; rfl
      . rw [if_neg z, List.filter_cons_of_neg z]; exact List.append_nil _
    refine S.if1 (T1.not (T1.val (E1.anyIn (i := 2) (j := 3) (xss := ml k) (n := (k : Int)) rfl rfl (Nat.le_trans (mlen k) (by omega))))) (fun h => ?_) (fun h => S.next ⟨.dat (.int k), ?_⟩)
    . rw [lots_any hs k1, Bool.not_not] at h
      refine S.nestApp (i := 2) (C := fun xs => xs = (nI (cls (adj fs (qv a b)) fs.length k)).map .int) rfl (nls (ml k)) (E.mono (E1.callN (R := RLotOf) (ds := [stD fs, .int k, tI [a, b]]) (es := (nI (cls (adj fs (qv a b)) fs.length k)).map .int) (A1.cons (E1.var rfl) (A1.cons (E1.var rfl) (A1.cons (E1.var rfl) A1.nil))) ⟨fs, k, a, b, rfl, st, hn, k1, b0, ba, bb, rfl⟩ (noLs_ints _)) fun s e => ⟨_, e.symm, noLs_ints _, rfl⟩) (by rw [List.length_map]; exact Nat.lt_of_le_of_lt (mlen k) (Nat.lt_of_lt_of_le k1 (Nat.le_trans hn (by decide)))) fun xs ex => ⟨.dat (.int k), ?_⟩
      rw [ex, ms, if_pos h, List.map_append]; rfl
    . rw [lots_any hs k1, Bool.not_not] at h
      rw [ms, if_neg (by rw [h]; exact Bool.false_ne_true)]; rfl
  subst eτ
  exact S.retT (i := 2) rfl ⟨_, rfl, rfl, nestO_free (nls (ml fs.length))⟩
theorem scMixed4 : FnScope ["_law_cell", "_law_k", "_law_number_here"] ["_law_cell", "_law_k"] (defScope sMixed4) := ⟨rfl, rfl, rfl, by decide +kernel, rfl, by decide +kernel, by decide +kernel⟩
theorem ok_mixed4 (F : Fun K "_law_mixed" "_law_mixed" sMixed4 f fd) :
    FnOk P w K mg base CX0 1 f fd ["_law_cell", "_law_k"] spMixed4 := by
  refine F.okZ scMixed4 (fun vs H Q E h => ?_) (fun cdv A outer s H vs Q E hr h => ?_)
  . obtain ⟨c, k, rfl, _⟩ := h; rfl
  obtain ⟨c, k, rfl, hb, k0, k1, q⟩ := h
  refine ⟨_, (zss_cons (zs_set (i := 2) scMixed4.nd rfl (Or.inl rfl) (ze_op op_mod (ze_op op_mulB (ze_op op_add (ze_op op_add (ze_op op_add (ze_op op_mulB (zv 0) (zv 0)) (ze_op op_mulB ze_int (zv 0))) (ze_op op_mulB ze_int (zv 1))) ze_int) ze_int) ze_int))
    (zss_cons (zs_set (i := 2) scMixed4.nd rfl (Or.inl rfl) (ze_op op_mod (ze_op op_add (ze_op op_mulB (zv 2) (zv 2)) ze_int) ze_int))
    (zss_one (zs_ret (ze_op op_mod (ze_op op_mulB (zv 2) (ze_op op_add (zv 2) ze_int)) ze_int))))), ?_⟩
  refine ⟨_, rfl, _, rfl, c, c, rfl, rfl, IntMulOk.of_bits hb hb, _, rfl, _, _, rfl, rfl, okL (by decide) (by decide), _, _, rfl, rfl, _, rfl, _, _, rfl, rfl, okL (by decide) (by decide), _, _, rfl, rfl, _, _, rfl, rfl, _, _, rfl, rfl, okR (by decide) (by decide), _, _, rfl, rfl, (show (0 : Int) < 2147483629 by decide), ?_⟩
  have x0 : (0 : Int) <= ((c * c + 3 * c + 7919 * k + 1) * 48271) % 2147483629 := Int.emod_nonneg _ (by decide)
  have x1 : ((c * c + 3 * c + 7919 * k + 1) * 48271) % 2147483629 < (2147483629 : Int) := Int.emod_lt_of_pos _ (by decide)
  generalize ((c * c + 3 * c + 7919 * k + 1) * 48271) % 2147483629 = n at *
  refine ⟨_, rfl, _, rfl, _, _, rfl, rfl, okL (by omega) (by omega), _, _, rfl, rfl, _, _, rfl, rfl, (show (0 : Int) < 2147483587 by decide), ?_⟩
  have y0 : (0 : Int) <= (n * n + 7) % 2147483587 := Int.emod_nonneg _ (by decide)
  have y1 : (n * n + 7) % 2147483587 < (2147483587 : Int) := Int.emod_lt_of_pos _ (by decide)
  generalize (n * n + 7) % 2147483587 = m at *
  refine ⟨_, rfl, _, rfl, _, _, rfl, rfl, _, _, rfl, rfl, okL (by omega) (by omega), _, _, rfl, rfl, (show (0 : Int) < 2147483563 by decide), ?_⟩
  exact q _ (Int.emod_nonneg _ (by decide)) (Int.lt_trans (Int.emod_lt_of_pos _ (by decide)) (by decide))
theorem scPurse4 : FnScope ["_law_script", "_law_cells", "_law_number_here", "_law_k"] ["_law_script"] (defScope sPurse4) := ⟨rfl, rfl, rfl, by decide +kernel, rfl, by decide +kernel, by decide +kernel⟩
theorem ok_purse4 (F : Fun K "_law_purse" "_law_purse" sPurse4 f fd)
    (G : FnOk P w K mg base CX0 1 g gd ["_law_cell", "_law_k"] spMixed4) (bG : Binds K gd ["_law_cell", "_law_k"] []) (kG : PySem.W.keepIn K (.ref g) = true) (mG : mg "_law_mixed" = some (.ref g)) (m_range : mg "range" = none) (m_len : mg "len" = none) :
    FnOk P w K mg base CX0 2 f fd ["_law_script"] (spPurse K) := by
  refine F.okZ scPurse4 (fun vs H Q E h => ?_) (fun cdv A outer s H vs Q E hr h => ?_)
  . obtain ⟨a, ns, rfl, _⟩ := h; rfl
  obtain ⟨a, ns, rfl, hS, hl, hb, q⟩ := h
  have r := hr.mono (show 1 <= 1 by decide)
  refine ⟨_, (zss_cons (zs_set (i := 1) scPurse4.nd rfl (Or.inl rfl) (ze_op op_cat (ze_slice sl_list (zv 0) zo_none (zo_some ze_int)) (ze_lst (za_i za_nil))))
    (zss_cons (zs_set (i := 2) scPurse4.nd rfl (Or.inl rfl) ze_int)
    (zss_cons (zs_for PassesOwn.never rfl (zi_range1 rfl m_range (za_i za_nil)) (zg_name (i := 3) scPurse4.nd rfl (Or.inl rfl)) (zss_one (zs_set (i := 2) scPurse4.nd rfl (Or.inl rfl) (ze_op op_add (ze_op op_mulB (zv 2) ze_int) (ze_call G r rfl mG kG bG .nil pass0 (za_s (ze_ix ix_list (zv 1) (ze_op op_mod (zv 3) (ze_callB call_len_seq rfl m_len PySem.boot_len (za_n (zv 1) za_nil))) (fun _ _ => rfl)) (za_n (zv 3) za_nil)))))))
    (zss_cons (zs_if (zt_cmpR op_ge (ze_ix ix_list (zv 1) ze_int (fun _ _ => rfl)) (ze_op op_pow ze_int ze_int) (nomark _)) (zss_one (zs_ret (ze_lst (za_b (ze_op op_fdivB (ze_ix ix_list (zv 1) ze_int (fun _ _ => rfl)) (ze_op op_pow ze_int ze_int)) (za_n (zv 2) za_nil))))) zss_nil)
    (zss_one (zs_ret (ze_lst (za_n (zv 2) (za_n (zv 2) za_nil))))))))), ?_⟩
  refine ⟨_, rfl, 63, rfl, a, _, rfl, hS, fun p1 hp1 => ⟨(by show 1 <= sizeLine; decide), fun p2 hp2 => ?_⟩⟩
  rw [cut63 hl] at hp2 ⊢
  have s1 : Same H (upd H p1 (.lst (ns.map V.int))) := Same.new hp1 _
  have s2 := Same.new hp2 (.lst [V.int 0])
  refine ⟨p1, p2, ns.map V.int, [.int 0], rfl, rfl, s2 _ _ upd_same, upd_same, ?_, fun c hc => ?_⟩
  . rw [List.length_map]; exact Nat.le_of_lt (small1000 (by show ns.length + 1 <= 1000; omega))
  have s3 := Same.new hc (.lst (ns.map V.int ++ [V.int 0]))
  have cs : ns.map V.int ++ [V.int 0] = (ns ++ [0]).map V.int := by rw [List.map_append]; rfl
  have S := (s1.trans s2).trans s3
  have hcn : H c = none := (s1.trans s2).free hc
  have hC : SqL K (upd (upd (upd H p1 (.lst (ns.map V.int))) p2 (.lst [V.int 0])) c (.lst (ns.map V.int ++ [V.int 0]))) c ((ns ++ [0]).map V.int) := by rw [<- cs]; exact SqL.of upd_same
  generalize upd (upd (upd H p1 (.lst (ns.map V.int))) p2 (.lst [V.int 0])) c (.lst (ns.map V.int ++ [V.int 0])) = H3 at S hC ⊢
  have bits : ∀ v ∈ ns ++ [0], Builtin.Int.intBits v <= 2 ^ 20 := fun v hv => by
    rcases List.mem_append.mp hv with h | h
    . exact hb v h
    . have : v = 0 := by simpa using h
      subst this; decide
  generalize hcs : ns ++ [0] = cs at hC bits
  have lc : 0 < cs.length /\ cs.length <= 64 := by rw [<- hcs, List.length_append]; simp; omega
  refine ⟨150, rfl, by decide, by decide, for_range (n := 150) (fun i σ H' => H3 = H' /\ ∃ (x : Int) (k : Option V), σ = [some (.ref a), some (.ref c), some (.int x), k]) ⟨rfl, 1, _, rfl⟩ (fun i σ H' hi h => ?_) (fun σ H' h => ?_)⟩
  . obtain ⟨rfl, x, k, rfl⟩ := h
    have m0 : (0 : Int) <= (0 + (i : Int)) % (cs.length : Int) := Int.emod_nonneg _ (by omega)
    have m1 : (0 + (i : Int)) % (cs.length : Int) < (cs.length : Int) := Int.emod_lt_of_pos _ (by omega)
    generalize hj : (0 + (i : Int)) % (cs.length : Int) = j at m0 m1
    obtain ⟨c1, hc1, at1⟩ := at_draw m0 m1
    refine ⟨_, rfl, _, _, rfl, rfl, okR (by decide) (by decide), _, rfl, _, rfl, _, rfl, c, _, rfl, .inl hC, _, _, rfl, rfl, (show (0 : Int) < ((cs.map V.int).length : Nat) by rw [List.length_map]; omega), c, _, _, _, rfl, rfl, hC, ?_, _, rfl, c1, _, rfl, bits _ hc1, by omega, by omega, fun d _ _ => ?_⟩
    . rw [List.length_map, hj]; exact at1
    . exact ⟨_, _, rfl, rfl, rfl, _, _, rfl⟩
  . obtain ⟨rfl, x, k, rfl⟩ := h
    have hl0 : 0 < cs.length := lc.1
    have at0 : atI (cs.map V.int) 0 = some (.int cs[0]) := atI_nat (j := 0) (by rw [List.getElem?_map]; simp [hl0])
    refine ⟨_, rfl, c, _, _, _, rfl, rfl, hC, at0, _, _, rfl, rfl, ⟨by decide, by decide, by decide⟩, _, _, rfl, rfl, _, rfl, ?_⟩
    refine ite2 (fun c' => ?_) (fun c' => ?_)
    . refine ⟨_, rfl, c, _, _, _, rfl, rfl, hC, at0, _, _, rfl, rfl, ⟨by decide, by decide, by decide⟩, _, _, rfl, rfl, ⟨by decide, by decide⟩, _, rfl, (by show 2 <= sizeLine; decide), fun p hp => ?_⟩
      exact q p _ (S.free hp) (S.trans (Same.new hp _)) ⟨_, _, upd_same⟩
    . refine ⟨_, rfl, _, rfl, (by show 2 <= sizeLine; decide), fun p hp => ?_⟩
      exact q p _ (S.free hp) (S.trans (Same.new hp _)) ⟨_, _, upd_same⟩
theorem scDraw : FnScope ["_law_purse_here", "_law_out_of", "_law_drawn"] ["_law_purse_here", "_law_out_of"] (defScope sDraw) := ⟨rfl, rfl, rfl, by decide +kernel, rfl, by decide +kernel, by decide +kernel⟩
theorem ok_draw (F : Fun K "_law_draw" "_law_draw" sDraw f fd) : FnOk P w K mg base CX0 1 f fd ["_law_purse_here", "_law_out_of"] spDraw := by
  refine F.okZ scDraw (fun vs H Q E h => ?_) (fun cdv A outer s H vs Q E hr h => ?_)
  . obtain ⟨p, m, rfl, _⟩ := h; rfl
  obtain ⟨p, m, rfl, ⟨a, b, hp⟩, m0, m1, q⟩ := h
  refine ⟨_, zss_cons (zs_if (zt_cmpR op_eq (ze_ix ix_list (zv 0) ze_int (fun _ _ => rfl)) ze_int (nomark _)) (zss_one (zs_asg (ze_ix ix_list (zv 0) ze_int (fun _ _ => rfl)) (zg_sub (zv 0) ze_int set_list (fun _ => rfl)))) zss_nil)
    (zss_cons (zs_set (i := 2) scDraw.nd rfl (Or.inl rfl) (ze_op op_mod (ze_ix ix_list (zv 0) ze_int (fun _ _ => rfl)) (zv 1)))
    (zss_cons (zs_asg (ze_op op_fdivB (ze_ix ix_list (zv 0) ze_int (fun _ _ => rfl)) (zv 1)) (zg_sub (zv 0) ze_int set_list (fun _ => rfl)))
    (zss_one (zs_ret (zv 2))))), ?_⟩
  have rest : ∀ (a : Int) (H1 : Hp), SB p H H1 -> H1 p = some (.lst [.int a, .int b]) -> tSeq (tAsg (tOp (rI (fun x j => 0 < j) fun i j => V.int (i % j)) (tOp (rIxL K) (tVar 0) (tC (.int 0))) (tVar 1)) (gName 2))
      (tSeq (tAsg (tOp (rI CDivB fun i j => V.int (i.fdiv j)) (tOp (rIxL K) (tVar 0) (tC (.int 0))) (tVar 1)) (gSub (tVar 0) (tC (.int 0)) rSetL)) (tRet (tVar 2))) { nx := fun _ H' => Q .non H', rt := Q } [some (.ref p), some (.int m), none] H1 := by
    intro a H1 s1 h1
    refine ⟨_, rfl, p, _, _, _, rfl, rfl, SqL.of h1, rfl, _, rfl, a, m, rfl, rfl, m0, ?_⟩
    refine ⟨_, rfl, p, _, _, _, rfl, rfl, SqL.of h1, rfl, _, rfl, a, m, rfl, rfl, ⟨by omega, ?_⟩, _, rfl, p, _, _, 0, rfl, rfl, h1, rfl, _, rfl, ?_⟩
    . have : m.natAbs < 2 ^ 9000 := Nat.lt_of_lt_of_le (show m.natAbs < 2 ^ 200 by omega) (Nat.pow_le_pow_right (by decide) (by decide))
      exact (Nat.log2_lt (by omega)).mpr this
    . exact q _ _ (Int.emod_nonneg _ (by omega)) (Int.emod_lt_of_pos _ m0) (s1.trans SB.upd) ⟨_, _, upd_same⟩
  refine ⟨_, rfl, p, _, _, _, rfl, rfl, SqL.of hp, rfl, rfl, _, rfl, ?_⟩
  refine ite2 (fun c => ?_) (fun c => ?_)
  . refine ⟨_, rfl, p, _, _, _, rfl, rfl, SqL.of hp, rfl, _, rfl, p, _, _, 0, rfl, rfl, hp, rfl, ?_⟩
    exact rest b _ SB.upd upd_same
  . exact rest a H (SB.refl _ _) hp
theorem scNumber4 : FnScope ["_law_purse_here"] ["_law_purse_here"] (defScope sNumber4) := ⟨rfl, rfl, rfl, by decide +kernel, rfl, by decide +kernel, by decide +kernel⟩
theorem ok_number4 (F : Fun K "_law_number" "_law_number" sNumber4 f fd)
    (G : FnOk P w K mg base CX0 1 g gd ["_law_purse_here", "_law_out_of"] spDraw) (bG : Binds K gd ["_law_purse_here", "_law_out_of"] []) (kG : PySem.W.keepIn K (.ref g) = true) (mG : mg "_law_draw" = some (.ref g)) :
    FnOk P w K mg base CX0 2 f fd ["_law_purse_here"] (spU K (RNum (10 ^ 24))) := by
  refine okU F scNumber4 (fun ds d h => ?_) (fun cdv A0 outer s0 H0 E0 hr => ?_)
  . obtain ⟨rfl, _⟩ := h; rfl
  have r := hr.mono (show 1 <= 1 by decide)
  refine ⟨_, (zss_cons (zs_if (zt_cmpR op_eq (ze_call G r rfl mG kG bG .nil pass0 (za_n (zv 0) (za_i za_nil))) ze_int (nomark _)) (zss_one (zs_ret (ze_op op_add (ze_op op_sub (ze_call G r rfl mG kG bG .nil pass0 (za_n (zv 0) (za_b (ze_op op_sub (ze_op op_mulB ze_int (ze_op op_pow ze_int ze_int)) ze_int) za_nil))) (ze_op op_pow ze_int ze_int)) ze_int))) zss_nil)
    (zss_one (zs_ret (ze_ix ix_list (ze_lst (za_i (za_i (za_i (za_u (ze_un un_neg ze_int) (za_i (za_u (ze_un un_neg ze_int) (za_b (ze_op op_sub (ze_call G r rfl mG kG bG .nil pass0 (za_n (zv 0) (za_i za_nil))) ze_int) (za_b (ze_op op_sub (ze_call G r rfl mG kG bG .nil pass0 (za_n (zv 0) (za_i za_nil))) ze_int) za_nil))))))))) (ze_call G r rfl mG kG bG .nil pass0 (za_n (zv 0) (za_i za_nil))) pix_call)))), fun q0 ds C h => ?_⟩
  obtain ⟨rfl, rfl⟩ := h
  have b24 : Bt (10 ^ Int.toNat 24) 80 := by unfold Bt; decide
  have e24 : (10 : Int) ^ Int.toNat 24 = 1000000000000000000000000 := by decide
  refine S.ifsC (T.eqI (EI.draw (A1.cons (E1.varP rfl) (A1.cons E1.int A1.nil)) (by decide : (0 : Int) < 16) (by decide)) EI.lit) (fun _ => ?_) (fun _ => ?_)
  . refine S.ret (EI.mono (P' := fun n => n.natAbs <= 10 ^ 24) (EI.op (EI.op (EI.draw (m := 2 * 10 ^ Int.toNat 24 - 1) (A1.cons (E1.varP rfl) (A1.cons (by (walk_at "au3")) A1.nil)) (by decide) (by decide)) (EI.of (P := fun j => j = 10 ^ Int.toNat 24) (by (walk_at "au3")) rfl)) EI.lit) fun k ⟨i, j, ⟨i1, j1, hi, hj, e1⟩, hj2, ek⟩ => by
      rw [e24] at hi hj
      subst ek e1 hj hj2; omega) ?_
    rintro s ⟨n, rfl, hn⟩
    exact ⟨_, ⟨n, rfl, hn⟩, rfl, rfl⟩
  have lit : ∀ {i : Int}, i.natAbs <= 10 ^ 24 -> EI (some q0) K (tC (.int i)) [.pu] (fun n => n.natAbs <= 10 ^ 24) := fun h => EI.of E1.int h
  have litn : ∀ {i : Int}, (-i).natAbs <= 10 ^ 24 -> EI (some q0) K (tUn (rU fun i => .int (-i)) (tC (.int i))) [.pu] (fun n => n.natAbs <= 10 ^ 24) := fun h => EI.of (E1.neg E1.int) h
  refine S.ret (EI.pickC (P := fun n => n.natAbs <= 10 ^ 24) (EL.li (AL.cons (lit (by decide)) (AL.cons (lit (by decide)) (AL.cons (lit (by decide)) (AL.cons (litn (by decide)) (AL.cons (lit (by decide)) (AL.cons (litn (by decide)) (AL.cons (EI.mono (EI.op (EI.draw (A1.cons (E1.varP rfl) (A1.cons E1.int A1.nil)) (by decide : (0 : Int) < 19) (by decide)) EI.lit) fun k ⟨i, j, hi, hj, ek⟩ => by omega) (AL.cons (EI.mono (EI.op (EI.draw (A1.cons (E1.varP rfl) (A1.cons E1.int A1.nil)) (by decide : (0 : Int) < 199) (by decide)) EI.lit) fun k ⟨i, j, hi, hj, ek⟩ => by omega) AL.nil)))))))) (by show 8 <= sizeLine; decide)) (EI.draw (A1.cons (E1.varP rfl) (A1.cons E1.int A1.nil)) (by decide : (0 : Int) < 8) (by decide)) fun d h => h) ?_
  rintro s ⟨n, rfl, hn⟩
  exact ⟨_, ⟨n, rfl, hn⟩, rfl, rfl⟩
theorem scRow4 : FnScope ["_law_purse_here", "_law_many", "_law_row_here"] ["_law_purse_here", "_law_many"] (defScope sRow4) := ⟨rfl, rfl, rfl, by decide +kernel, rfl, by decide +kernel, by decide +kernel⟩
theorem ok_row4 (F : Fun K "_law_row" "_law_row" sRow4 f fd)
    (G : FnOk P w K mg base CX0 2 g gd ["_law_purse_here"] (spU K (RNum (10 ^ 24)))) (bG : Binds K gd ["_law_purse_here"] []) (kG : PySem.W.keepIn K (.ref g) = true) (mG : mg "_law_number" = some (.ref g)) (m_tuple : mg "tuple" = none) (m_range : mg "range" = none) :
    FnOk P w K mg base CX0 3 f fd ["_law_purse_here", "_law_many"] (spU K RRow4) := by
  refine okU F scRow4 (fun ds d h => ?_) (fun cdv A0 outer s0 H0 E0 hr => ?_)
  . obtain ⟨rfl, _⟩ | ⟨rfl, _⟩ := h <;> rfl
  have r := hr.mono (show 2 <= 2 by decide)
  refine ⟨_, (zss_cons (zs_set (i := 2) scRow4.nd rfl (Or.inl rfl) (ze_callTy call_tuple_of rfl m_tuple (by rfl) (za_cons (ze_comp (own := ["_law_k"]) scRow4 rfl ⟨by decide +kernel, rfl, by decide +kernel, by decide +kernel, by decide +kernel, by decide +kernel, by decide +kernel, by decide +kernel, by decide +kernel⟩ (zi_range1 rfl m_range (za_n (zv 1) za_nil)) (fun C fp s H nd => zg_name (i := 0) nd rfl (Or.inl rfl)) (fun C fp s H => zts_nil) (fun C fp s H => (ze_call G r rfl mG kG bG .nil pass0 (za_n (zv 1) za_nil)))) za_nil)))
    (zss_cons (zs_if (zt_cmpR (op_eqD hr.units) (zv 2) (ze_op op_repT (ze_tup (za_i za_nil)) (zv 1)) (nomark _)) (zss_one (zs_ret (ze_op op_catW (ze_tup (za_i za_nil)) (ze_op op_repT (ze_tup (za_i za_nil)) (ze_op op_sub (zv 1) ze_int))))) zss_nil)
    (zss_one (zs_ret (zv 2))))), fun q0 ds C h => ?_⟩
  obtain ⟨rfl, rfl⟩ | ⟨rfl, rfl⟩ := h
  . skip
    refine S.letC (EL.row (EL.comp (n := 4) (P := fun m => m.natAbs <= 10 ^ 24) (Wk.rng (n := 4) (A1.cons (E1.var rfl) A1.nil) rfl) rangeD_len (fun d _ => E.mono (E.callU (R := RNum (10 ^ 24)) (ds := []) (A1.cons (E1.varP rfl) A1.nil) ⟨rfl, rfl⟩) fun s ⟨d, e, n, e2, hn⟩ => ⟨n, by rw [e, e2], hn⟩) z4)) (fun s ⟨_, e, _⟩ => by rw [e]; rfl) fun s ⟨ns, e, ln, bn⟩ => ?_
    subst e
    match ns, ln with
    | [a, b, c, e], _ =>
    have bd : Bd (2 ^ 80) [a, b, c, e] := bd_mono (show Bd (10 ^ 24) [a, b, c, e] from bn) (by decide)
    refine S.ifs (T1.test (E1.eqD (d := tI [a, b, c, e]) (e := tI [0, 0, 0, 0]) (E1.var rfl) (E1.repT (xs := [.int 0]) (k := 4) (n := 4) (E1.tu (A1.cons E1.int A1.nil) rfl (lsz (n := 1) rfl z1)) (E1.var rfl) (by simp) rfl (by decide) (by show 4 <= sizeLine; decide)) rfl rfl kqd_tup kqd_tup)) (fun h => ?_) (fun h => ?_)
    . exact S.ret1 (s := .dat (tI [1, 0, 0, 0])) (E1.catT (xs := [.int 1]) (ys := [.int 0, .int 0, .int 0]) (E1.tu (A1.cons E1.int A1.nil) rfl (lsz (n := 1) rfl z1)) (E1.repT (xs := [.int 0]) (k := 4 - 1) (n := 3) (E1.tu (A1.cons E1.int A1.nil) rfl (lsz (n := 1) rfl z1)) (E1.sub (E1.var rfl) E1.int) (by simp) rfl (by decide) (by show 3 <= sizeLine; decide)) (by show 4 <= sizeLine; decide)) ⟨_, ⟨1, 0, 0, 0, rfl, ⟨1, by simp, by decide⟩, bd_mono (show Bd 1 _ by unfold Bd; decide) (by decide)⟩, rfl, rfl⟩
    . rw [deq_tup] at h
      exact S.ret1 (s := .dat (tI [a, b, c, e])) (E1.var rfl) ⟨_, ⟨a, b, c, e, rfl, nz_of_ne4 rfl (of_decide_eq_false h), bd⟩, rfl, rfl⟩
  . skip
    refine S.letC (EL.row (EL.comp (n := 3) (P := fun m => m.natAbs <= 10 ^ 24) (Wk.rng (n := 3) (A1.cons (E1.var rfl) A1.nil) rfl) rangeD_len (fun d _ => E.mono (E.callU (R := RNum (10 ^ 24)) (ds := []) (A1.cons (E1.varP rfl) A1.nil) ⟨rfl, rfl⟩) fun s ⟨d, e, n, e2, hn⟩ => ⟨n, by rw [e, e2], hn⟩) z3)) (fun s ⟨_, e, _⟩ => by rw [e]; rfl) fun s ⟨ns, e, ln, bn⟩ => ?_
    subst e
    match ns, ln with
    | [a, b, c], _ =>
    have bd : Bd (2 ^ 80) [a, b, c] := bd_mono (show Bd (10 ^ 24) [a, b, c] from bn) (by decide)
    refine S.ifs (T1.test (E1.eqD (d := tI [a, b, c]) (e := tI [0, 0, 0]) (E1.var rfl) (E1.repT (xs := [.int 0]) (k := 3) (n := 3) (E1.tu (A1.cons E1.int A1.nil) rfl (lsz (n := 1) rfl z1)) (E1.var rfl) (by simp) rfl (by decide) (by show 3 <= sizeLine; decide)) rfl rfl kqd_tup kqd_tup)) (fun h => ?_) (fun h => ?_)
    . exact S.ret1 (s := .dat (tI [1, 0, 0])) (E1.catT (xs := [.int 1]) (ys := [.int 0, .int 0]) (E1.tu (A1.cons E1.int A1.nil) rfl (lsz (n := 1) rfl z1)) (E1.repT (xs := [.int 0]) (k := 3 - 1) (n := 2) (E1.tu (A1.cons E1.int A1.nil) rfl (lsz (n := 1) rfl z1)) (E1.sub (E1.var rfl) E1.int) (by simp) rfl (by decide) (by show 2 <= sizeLine; decide)) (by show 3 <= sizeLine; decide)) ⟨_, ⟨1, 0, 0, rfl, ⟨1, by simp, by decide⟩, bd_mono (show Bd 1 _ by unfold Bd; decide) (by decide)⟩, rfl, rfl⟩
    . rw [deq_tup] at h
      exact S.ret1 (s := .dat (tI [a, b, c])) (E1.var rfl) ⟨_, ⟨a, b, c, rfl, nz_of_ne3 rfl (of_decide_eq_false h), bd⟩, rfl, rfl⟩
theorem scDiv : FnScope ["_law_one", "_law_other"] ["_law_one", "_law_other"] (defScope sDiv) := ⟨rfl, rfl, rfl, by decide +kernel, rfl, by decide +kernel, by decide +kernel⟩
theorem ok_div (F : Fun K "_law_divisor" "_law_divisor" sDiv f fd) (ma : mg "abs" = none) :
    FnOk P w K mg base CX0 1 f fd ["_law_one", "_law_other"] spDiv := by
  refine F.okZ scDiv (fun vs H Q E h => ?_) (fun cdv A outer s H vs Q E hr h => ?_)
  . obtain ⟨a, b, rfl, _⟩ := h; rfl
  obtain ⟨a, b, rfl, q⟩ := h
  refine ⟨_, zss_cons (zs_set (i := 0) scDiv.nd rfl (Or.inl rfl) (ze_callB call_abs rfl ma (by rfl) (za_n (zv 0) za_nil)))
    (zss_cons (zs_set (i := 1) scDiv.nd rfl (Or.inl rfl) (ze_callB call_abs rfl ma (by rfl) (za_n (zv 1) za_nil)))
    (zss_cons (zs_while PassesOwn.never (zt_cmpR op_gt (zv 1) ze_int (nomark _)) (zss_one (zs_par (i := 0) (j := 1) rfl scDiv.nd rfl rfl (by decide) rfl rfl (za_n (zv 1) (za_b (ze_op op_mod (zv 0) (zv 1)) za_nil)) rfl)))
    (zss_one (zs_ret (zv 0))))), ?_⟩
  refine ⟨_, rfl, _, rfl, _, rfl, _, rfl, ?_⟩
  refine while_by (fun σ H' => H = H' /\ ∃ (c d : Int), 0 <= c /\ 0 <= d /\ Nat.gcd c.toNat d.toNat = Nat.gcd a.natAbs b.natAbs /\ σ = [some (.int c), some (.int d)])
    (fun σ _ => match σ with | [_, some (.int o)] => o.toNat | _ => 0) ⟨rfl, _, _, by split <;> omega, by split <;> omega, ?_, rfl⟩ (fun σ H' h => ?_) (fun σ H Q Q' hq h => ?_)
  . congr 1 <;> (split <;> omega)
  . obtain ⟨rfl, c, d, hc, hd, hg, rfl⟩ := h
    refine ⟨_, rfl, _, _, rfl, rfl, _, rfl, ?_⟩
    refine ite2 (fun z => ?_) (fun z => ?_)
    . have h0 : 0 < d := by simpa using z
      refine ⟨_, rfl, _, rfl, _, rfl, _, _, rfl, rfl, h0, _, _, rfl, ⟨rfl, _, _, hd, Int.emod_nonneg _ (by omega), ?_, rfl⟩, ?_⟩
      . rw [<- hg]; exact gcd_step hc h0
      . show (c % d).toNat < d.toNat
        have := Int.emod_lt_of_pos c h0
        have := Int.emod_nonneg c (show d ≠ 0 by omega)
        omega
    . have h0 : d = 0 := by
        have : ¬ 0 < d := fun y => z (by simpa using y)
        omega
      subst h0
      refine ⟨_, rfl, ?_⟩
      have e : (c.toNat : Int) = c := by omega
      rw [<- hg] at q
      simp only [Int.toNat_zero, Nat.gcd_zero_right, e] at q
      exact q
  . obtain ⟨v, e1, i, j, e2, e3, b, e4, q⟩ := h
    exact ⟨v, e1, i, j, e2, e3, b, e4, hq _ _ q⟩
theorem scLPlain5 : FnScope ["_law_four", "_law_by", "_law_number_here"] ["_law_four"] (defScope sLPlain5) := ⟨rfl, rfl, rfl, by decide +kernel, rfl, by decide +kernel, by decide +kernel⟩
theorem ok_lplain5 (F : Fun K "_law_plain" "_law_plain" sLPlain5 f fd)
    (G : FnOk P w K mg base CX0 1 g gd ["_law_one", "_law_other"] spDiv) (bG : Binds K gd ["_law_one", "_law_other"] []) (kG : PySem.W.keepIn K (.ref g) = true) (mG : mg "_law_divisor" = some (.ref g)) (m_tuple : mg "tuple" = none) :
    FnOk P w K mg base CX0 2 f fd ["_law_four"] (spP K RPl) := by
  refine okP F scLPlain5 (fun ds d h => ?_) (fun cdv A0 outer s0 H0 E0 hr => ?_)
  . obtain ⟨ns, rfl, _⟩ := h; rfl
  have r := hr.mono (show 1 <= 1 by decide)
  refine ⟨_, (zss_cons (zs_set (i := 1) scLPlain5.nd rfl (Or.inr rfl) ze_int)
    (zss_cons (zs_for PassesOwn.never rfl (zi_tup (zv 0)) (zg_name (i := 2) scLPlain5.nd rfl (Or.inl rfl)) (zss_one (zs_set (i := 1) scLPlain5.nd rfl (Or.inr rfl) (ze_call G r rfl mG kG bG .nil pass0 (za_n (zv 1) (za_n (zv 2) za_nil))))))
    (zss_cons (zs_if (zt_cmpR op_lt (ze_ix ix_list (ze_comp (own := ["_law_number_here"]) scLPlain5 rfl ⟨by decide +kernel, rfl, by decide +kernel, by decide +kernel, by decide +kernel, by decide +kernel, by decide +kernel, by decide +kernel, by decide +kernel⟩ (zi_tup (zv 0)) (fun C fp s H nd => zg_name (i := 0) nd rfl (Or.inl rfl)) (fun C fp s H => zts_one (zt_cmpR op_ne (zv 0) ze_int (nomark _))) (fun C fp s H => (zv 0))) ze_int (fun _ _ => rfl)) ze_int (nomark _)) (zss_one (zs_set (i := 1) scLPlain5.nd rfl (Or.inr rfl) (ze_un un_neg (zv 1)))) zss_nil)
    (zss_one (zs_ret (ze_callTy call_tuple_of rfl m_tuple (by rfl) (za_cons (ze_comp (own := ["_law_number_here"]) scLPlain5 rfl ⟨by decide +kernel, rfl, by decide +kernel, by decide +kernel, by decide +kernel, by decide +kernel, by decide +kernel, by decide +kernel, by decide +kernel⟩ (zi_tup (zv 0)) (fun C fp s H nd => zg_name (i := 0) nd rfl (Or.inl rfl)) (fun C fp s H => zts_nil) (fun C fp s H => (ze_op op_fdivB (zv 0) (zv 2)))) za_nil))))))), fun ds d h => ?_⟩
  obtain ⟨ns, rfl, hl, nz, sm, rfl⟩ := h
  have lz : ns.length <= sizeLine := Nat.le_of_lt (small1000 hl)
  refine S.let1 (s := .dat (.int 0)) E1.int ?_
  refine S.seq (M := fun τ' => ∃ o : Sl, τ' = [.dat (tI ns), .dat (.int (gcdN ns : Nat)), o]) ?_ fun τ' ⟨o, eτ⟩ => ?_
  . refine S.for (Wk.tup (E1.var rfl)) (fun i τ' => ∃ o : Sl, τ' = [.dat (tI ns), .dat (.int (gcdN (ns.take i) : Nat)), o]) ⟨_, rfl⟩ (fun i d τ1 hd ⟨o, e1⟩ => ?_) (fun τ1 ⟨o, h⟩ => ⟨o, by rw [h, List.length_map, List.take_length]⟩)
    subst e1
    rw [List.getElem?_map] at hd
    cases hn : ns[i]? with
    | none => rw [hn] at hd; cases hd
    | some n =>
      rw [hn] at hd
      cases hd
      refine ⟨_, Gd.name, ?_⟩
      refine S.asg1 (E1.cDiv (A1.cons (E1.var rfl) (A1.cons (E1.var rfl) A1.nil))) ⟨.dat (.int n), ?_⟩
      have tk : ns.take (i + 1) = ns.take i ++ [n] := by rw [List.take_add_one, hn]; rfl
      rw [tk, gcdN_snoc, Int.natAbs_natCast]
      rfl
  subst eτ
  have un := unit_ne nz
  have ub : (unit ns).natAbs.log2 < 9000 := by
    rw [unit_natAbs]
    have := gcd_small nz sm
    rwa [Int.natAbs_natCast] at this
  refine S.seq (M := fun τ' => τ' = [.dat (tI ns), .dat (.int (unit ns)), o]) ?_ fun τ' eτ => ?_
  . refine S.if1 (T1.test (E1.lt (i := fst0 ns) (j := 0) (E1.ixL (E1.vwo (E1.compIF (kp := fun n => !decide (n = 0)) (Wk.tup (E1.var rfl)) (fun n _ => T1.test (E1.ne (E1.var rfl) E1.int)) (fun n _ => (E1.var rfl)) lz)) E1.int (atI_nat (j := 0) (by rw [List.getElem?_map, first_at' nz]; rfl))) E1.int)) (fun h => ?_) (fun h => ?_)
    . have h : fst0 ns < 0 := by simpa using h
      exact S.asg1 (E1.neg (E1.var rfl)) (by unfold unit; rw [if_pos h]; try rfl)
    . have h : ¬ fst0 ns < 0 := by simpa using h
      exact S.next (by unfold unit; rw [if_neg h])
  subst eτ
  exact S.ret1 (s := .dat (tI (pl ns))) (E1.tupleL (A1.cons (E1.vwo (E1.compI (g := fun n => n / unit ns) (Wk.tup (E1.var rfl)) (fun n hn => E1.to (E1.fdiv (E1.var rfl) (E1.var rfl) ⟨un, ub⟩) (by rw [Int.fdiv_eq_ediv_of_dvd (unit_dvd hn)])) lz)) A1.nil)) ⟨rfl, noLs_ints _⟩
theorem scThen4 : FnScope ["_law_one", "_law_other", "_law_p", "_law_q", "_law_r", "_law_s", "_law_t", "_law_u", "_law_v", "_law_o", "_law_w", "_law_x", "_law_y"] ["_law_one", "_law_other"] (defScope sThen4) := ⟨rfl, rfl, rfl, by decide +kernel, rfl, by decide +kernel, by decide +kernel⟩
theorem ok_then4 (F : Fun K "_law_then" "_law_then" sThen4 f fd)
    (G : FnOk P w K mg base CX0 2 g gd ["_law_four"] (spP K RPl)) (bG : Binds K gd ["_law_four"] []) (kG : PySem.W.keepIn K (.ref g) = true) (mG : mg "_law_plain" = some (.ref g)) :
    FnOk P w K mg base CX0 3 f fd ["_law_one", "_law_other"] (spP K RThen4) := by
  refine okP F scThen4 (fun ds d h => ?_) (fun cdv A0 outer s0 H0 E0 hr => ?_)
  . obtain ⟨ns, ms, rfl, _⟩ := h; rfl
  have r := hr.mono (show 2 <= 2 by decide)
  refine ⟨_, (zss_cons (zs_asg (zv 1) (zg_tup rfl (zgs_cons (zg_name (i := 2) scThen4.nd rfl (Or.inl rfl)) (zgs_cons (zg_name (i := 3) scThen4.nd rfl (Or.inl rfl)) (zgs_cons (zg_name (i := 4) scThen4.nd rfl (Or.inl rfl)) (zgs_cons (zg_name (i := 5) scThen4.nd rfl (Or.inl rfl)) zgs_nil))))))
    (zss_cons (zs_asg (zv 0) (zg_tup rfl (zgs_cons (zg_name (i := 6) scThen4.nd rfl (Or.inl rfl)) (zgs_cons (zg_name (i := 7) scThen4.nd rfl (Or.inl rfl)) (zgs_cons (zg_name (i := 8) scThen4.nd rfl (Or.inl rfl)) (zgs_cons (zg_name (i := 9) scThen4.nd rfl (Or.inl rfl)) zgs_nil))))))
    (zss_cons (zs_set (i := 10) scThen4.nd rfl (Or.inl rfl) (ze_op op_sub (ze_op op_sub (ze_op op_sub (ze_op op_mulB (zv 2) (zv 6)) (ze_op op_mulB (zv 3) (zv 7))) (ze_op op_mulB (zv 4) (zv 8))) (ze_op op_mulB (zv 5) (zv 9))))
    (zss_cons (zs_set (i := 11) scThen4.nd rfl (Or.inl rfl) (ze_op op_sub (ze_op op_add (ze_op op_add (ze_op op_mulB (zv 2) (zv 7)) (ze_op op_mulB (zv 3) (zv 6))) (ze_op op_mulB (zv 4) (zv 9))) (ze_op op_mulB (zv 5) (zv 8))))
    (zss_cons (zs_set (i := 12) scThen4.nd rfl (Or.inl rfl) (ze_op op_sub (ze_op op_add (ze_op op_add (ze_op op_mulB (zv 2) (zv 8)) (ze_op op_mulB (zv 4) (zv 6))) (ze_op op_mulB (zv 5) (zv 7))) (ze_op op_mulB (zv 3) (zv 9))))
    (zss_one (zs_ret (ze_call G r rfl mG kG bG .nil pass0 (za_t (ze_tup (za_n (zv 10) (za_n (zv 11) (za_n (zv 12) (za_b (ze_op op_sub (ze_op op_add (ze_op op_add (ze_op op_mulB (zv 2) (zv 9)) (ze_op op_mulB (zv 5) (zv 6))) (ze_op op_mulB (zv 3) (zv 8))) (ze_op op_mulB (zv 4) (zv 7))) za_nil))))) za_nil))))))))), fun ds d h => ?_⟩
  obtain ⟨ns, ms, rfl, ⟨l1, n1, b1⟩, ⟨l2, n2, b2⟩, rfl⟩ := h
  obtain ⟨t, u, v, o, rfl⟩ := four_of l1
  obtain ⟨p, q, r, s, rfl⟩ := four_of l2
  obtain ⟨bt', bu, bv, bo⟩ := bd_bt4 b1
  obtain ⟨bp, bq, br, bs⟩ := bd_bt4 b2
  have nq := nz_qm (ns := [p, q, r, s]) (ms := [t, u, v, o]) rfl rfl n2 n1
  have e : qm [p, q, r, s] [t, u, v, o] = [p * t - q * u - r * v - s * o, p * u + q * t + r * o - s * v, p * v + r * t + s * u - q * o, p * o + s * t + q * v - r * u] := by
    show [_, _, _, _] = [_, _, _, _]
    rw [List.cons.injEq, List.cons.injEq, List.cons.injEq, List.cons.injEq]
    refine ⟨rfl, rfl, ?_, ?_, rfl⟩ <;> grind
  have bq' : Bd (2 ^ 4002) (qm [p, q, r, s] [t, u, v, o]) := bd_mono (bd_qm (ns := [p, q, r, s]) (ms := [t, u, v, o]) rfl rfl b2 b1) (by rw [<- Nat.pow_add, show (4 : Nat) = 2 ^ 2 from rfl, <- Nat.pow_add]; exact Nat.pow_le_pow_right (by decide) (by decide))
  rw [e] at nq bq' ⊢
  refine S.letG (d := tI [p, q, r, s]) (E1.var rfl) Gd.four ?_
  refine S.letG (d := tI [t, u, v, o]) (E1.var rfl) Gd.four ?_
  refine S.let1 (s := .dat (.int (p * t - q * u - r * v - s * o))) (by (walk_at "au3")) ?_
  refine S.let1 (s := .dat (.int (p * u + q * t + r * o - s * v))) (by (walk_at "au3")) ?_
  refine S.let1 (s := .dat (.int (p * v + r * t + s * u - q * o))) (by (walk_at "au3")) ?_
  exact S.ret1 (s := .dat (tI (pl [p * t - q * u - r * v - s * o, p * u + q * t + r * o - s * v, p * v + r * t + s * u - q * o, p * o + s * t + q * v - r * u]))) (E1.call (R := RPl) (ds := [tI [p * t - q * u - r * v - s * o, p * u + q * t + r * o - s * v, p * v + r * t + s * u - q * o, p * o + s * t + q * v - r * u]]) (by (walk_at "au3")) ⟨[p * t - q * u - r * v - s * o, p * u + q * t + r * o - s * v, p * v + r * t + s * u - q * o, p * o + s * t + q * v - r * u], rfl, by show 4 <= 1000; decide, nq, sm_bd' bq', rfl⟩) ⟨rfl, noLs_ints _⟩
theorem scBack4 : FnScope ["_law_four"] ["_law_four"] (defScope sBack4) := ⟨rfl, rfl, rfl, by decide +kernel, rfl, by decide +kernel, by decide +kernel⟩
theorem ok_back4 (F : Fun K "_law_back" "_law_back" sBack4 f fd)
    (G : FnOk P w K mg base CX0 2 g gd ["_law_four"] (spP K RPl)) (bG : Binds K gd ["_law_four"] []) (kG : PySem.W.keepIn K (.ref g) = true) (mG : mg "_law_plain" = some (.ref g)) :
    FnOk P w K mg base CX0 3 f fd ["_law_four"] (spP K RBack4) := by
  refine okP F scBack4 (fun ds d h => ?_) (fun cdv A0 outer s0 H0 E0 hr => ?_)
  . obtain ⟨ns, rfl, _⟩ := h; rfl
  have r := hr.mono (show 2 <= 2 by decide)
  refine ⟨_, (zss_one (zs_ret (ze_call G r rfl mG kG bG .nil pass0 (za_t (ze_tup (za_s (ze_ix ix_tup (zv 0) ze_int (fun _ _ => rfl)) (za_u (ze_un un_neg (ze_ix ix_tup (zv 0) ze_int (fun _ _ => rfl))) (za_u (ze_un un_neg (ze_ix ix_tup (zv 0) ze_int (fun _ _ => rfl))) (za_u (ze_un un_neg (ze_ix ix_tup (zv 0) ze_int (fun _ _ => rfl))) za_nil))))) za_nil)))), fun ds d h => ?_⟩
  obtain ⟨ns, rfl, ⟨l1, n1, b1⟩, rfl⟩ := h
  obtain ⟨t, u, v, o, rfl⟩ := four_of l1
  have nc := nz_cj (ns := [t, u, v, o]) rfl n1
  have bc := bd_cj (ns := [t, u, v, o]) rfl b1
  exact S.ret1 (s := .dat (tI (pl [t, -u, -v, -o]))) (E1.call (R := RPl) (ds := [tI [t, -u, -v, -o]]) (by (walk_at "au3")) ⟨[t, -u, -v, -o], rfl, by show 4 <= 1000; decide, nc, sm_bd' bc, rfl⟩) ⟨rfl, noLs_ints _⟩
theorem scLowest4 : FnScope ["_law_top", "_law_bottom", "_law_by"] ["_law_top", "_law_bottom"] (defScope sLowest4) := ⟨rfl, rfl, rfl, by decide +kernel, rfl, by decide +kernel, by decide +kernel⟩
theorem ok_lowest4 (F : Fun K "_law_lowest" "_law_lowest" sLowest4 f fd)
    (G : FnOk P w K mg base CX0 1 g gd ["_law_one", "_law_other"] spDiv) (bG : Binds K gd ["_law_one", "_law_other"] []) (kG : PySem.W.keepIn K (.ref g) = true) (mG : mg "_law_divisor" = some (.ref g)) :
    FnOk P w K mg base CX0 2 f fd ["_law_top", "_law_bottom"] (spP K RMk) := by
  refine okP F scLowest4 (fun ds d h => ?_) (fun cdv A0 outer s0 H0 E0 hr => ?_)
  . obtain ⟨t, b, rfl, _⟩ := h; rfl
  have r := hr.mono (show 1 <= 1 by decide)
  refine ⟨_, (zss_cons (zs_set (i := 2) scLowest4.nd rfl (Or.inl rfl) (ze_call G r rfl mG kG bG .nil pass0 (za_n (zv 0) (za_n (zv 1) za_nil))))
    (zss_one (zs_ret (ze_tup (za_b (ze_op op_fdivB (zv 0) (zv 2)) (za_b (ze_op op_fdivB (zv 1) (zv 2)) za_nil)))))), fun ds d h => ?_⟩
  obtain ⟨t, b, rfl, b0, bb, rfl⟩ := h
  have hg : gcdN [t, b] = Nat.gcd t.natAbs b.natAbs := by
    rw [gcdN_cons, gcdN_cons]
    show Nat.gcd t.natAbs (Nat.gcd b.natAbs 0) = _
    rw [Nat.gcd_zero_right]
  have nz : ∃ n ∈ [t, b], n ≠ 0 := ⟨b, by simp, by omega⟩
  have gp := gcdN_pos nz
  have gl : gcdN [t, b] <= b.natAbs := gcdN_le (by simp) (by omega)
  have bg : Bt (gcdN [t, b] : Nat) 8000 := by unfold Bt at *; omega
  have cd : ∀ n : Int, CDivB n (gcdN [t, b] : Nat) := fun n => ⟨by omega, bg.log (by omega)⟩
  have ed : ∀ n ∈ [t, b], n.fdiv (gcdN [t, b] : Nat) = n / (gcdN [t, b] : Nat) := fun n hn => Int.fdiv_eq_ediv_of_dvd (gcdN_dvd hn)
  refine S.let1 (s := .dat (.int (gcdN [t, b] : Nat))) (E1.to (E1.cDiv (A1.cons (E1.var rfl) (A1.cons (E1.var rfl) A1.nil))) (by rw [hg])) ?_
  exact S.ret1 (s := .dat (tI (fr t b))) (E1.tu (A1.cons (E1.to (E1.fdiv (E1.var rfl) (E1.var rfl) (cd _)) (by rw [ed t (by simp)])) (A1.cons (E1.to (E1.fdiv (E1.var rfl) (E1.var rfl) (cd _)) (by rw [ed b (by simp)])) A1.nil)) rfl (lsz (n := 2) rfl z2)) ⟨rfl, noLs_ints _⟩
theorem scRest4 : FnScope ["_law_four"] ["_law_four"] (defScope sRest4) := ⟨rfl, rfl, rfl, by decide +kernel, rfl, by decide +kernel, by decide +kernel⟩
theorem ok_rest4 (F : Fun K "_law_rest" "_law_rest" sRest4 f fd)
    (G : FnOk P w K mg base CX0 2 g gd ["_law_top", "_law_bottom"] (spP K RMk)) (bG : Binds K gd ["_law_top", "_law_bottom"] []) (kG : PySem.W.keepIn K (.ref g) = true) (mG : mg "_law_lowest" = some (.ref g)) (m_sum : mg "sum" = none) :
    FnOk P w K mg base CX0 3 f fd ["_law_four"] (spP K RRest4) := by
  refine okP F scRest4 (fun ds d h => ?_) (fun cdv A0 outer s0 H0 E0 hr => ?_)
  . obtain ⟨ns, rfl, _⟩ := h; rfl
  have r := hr.mono (show 2 <= 2 by decide)
  refine ⟨_, (zss_one (zs_ret (ze_call G r rfl mG kG bG .nil pass0 (za_b (ze_op op_mulB (ze_ix ix_tup (zv 0) ze_int (fun _ _ => rfl)) (ze_ix ix_tup (zv 0) ze_int (fun _ _ => rfl))) (za_c (ze_callB (call_sumL rfl) rfl m_sum (by rfl) (za_cons (ze_comp (own := ["_law_number_here"]) scRest4 rfl ⟨by decide +kernel, rfl, by decide +kernel, by decide +kernel, by decide +kernel, by decide +kernel, by decide +kernel, by decide +kernel, by decide +kernel⟩ (zi_tup (zv 0)) (fun C fp s H nd => zg_name (i := 0) nd rfl (Or.inl rfl)) (fun C fp s H => zts_nil) (fun C fp s H => (ze_op op_mulB (zv 0) (zv 0)))) za_nil)) za_nil))))), fun ds d h => ?_⟩
  obtain ⟨ns, rfl, ⟨l1, n1, b1⟩, rfl⟩ := h
  obtain ⟨a, b, c, e, rfl⟩ := four_of l1
  obtain ⟨ba, bb, bc, be⟩ := bd_bt4 b1
  have hn := nrm_pos (ns := [a, b, c, e]) rfl n1
  have bn : Bt (nrm [a, b, c, e]) 4003 := nrm_btG b1
  exact S.ret1 (s := .dat (tI (rs [a, b, c, e]))) (E1.call (R := RMk) (ds := [.int (a * a), .int (nrm [a, b, c, e])]) (A1.cons (E1.mul (E1.ixT (E1.var rfl) E1.int rfl) (E1.ixT (E1.var rfl) E1.int rfl) (ba.mulOk ba)) (A1.cons (E1.to (E1.su (ns := [a * a, b * b, c * c, e * e]) (A1.cons (E1.vwo (E1.comp4 (d1 := .int a) (d2 := .int b) (d3 := .int c) (d4 := .int e) (Wk.tup (E1.var rfl)) (E1.mul (E1.var rfl) (E1.var rfl) (ba.mulOk ba)) (E1.mul (E1.var rfl) (E1.var rfl) (bb.mulOk bb)) (E1.mul (E1.var rfl) (E1.var rfl) (bc.mulOk bc)) (E1.mul (E1.var rfl) (E1.var rfl) (be.mulOk be)))) A1.nil) rfl) (by show _ = Sl.dat (.int (a * a + b * b + c * c + e * e)); simp [List.sum_cons]; omega)) A1.nil)) ⟨_, _, rfl, hn, bn.up (by decide), rfl⟩) ⟨rfl, noLs_ints _⟩
theorem scStepQ : FnScope ["_law_stands_here", "_law_one", "_law_other"] ["_law_stands_here", "_law_one", "_law_other"] (defScope sStepQ) := ⟨rfl, rfl, rfl, by decide +kernel, rfl, by decide +kernel, by decide +kernel⟩
theorem ok_stepq (F : Fun K "_law_step" "_law_step" sStepQ f fd)
    (G : FnOk P w K mg base CX0 3 g gd ["_law_four"] (spP K RRest4)) (bG : Binds K gd ["_law_four"] []) (kG : PySem.W.keepIn K (.ref g) = true) (mG : mg "_law_rest" = some (.ref g))
    (G2 : FnOk P w K mg base CX0 3 g2 gd2 ["_law_one", "_law_other"] (spP K RThen4)) (bG2 : Binds K gd2 ["_law_one", "_law_other"] []) (kG2 : PySem.W.keepIn K (.ref g2) = true) (mG2 : mg "_law_then" = some (.ref g2))
    (G3 : FnOk P w K mg base CX0 3 g3 gd3 ["_law_four"] (spP K RBack4)) (bG3 : Binds K gd3 ["_law_four"] []) (kG3 : PySem.W.keepIn K (.ref g3) = true) (mG3 : mg "_law_back" = some (.ref g3)) :
    FnOk P w K mg base CX0 4 f fd ["_law_stands_here", "_law_one", "_law_other"] (spP K RStepQ) := by
  refine okP F scStepQ (fun ds d h => ?_) (fun cdv A0 outer s0 H0 E0 hr => ?_)
  . obtain ⟨fs, i, j, rfl, _⟩ := h; rfl
  have r := hr.mono (show 3 <= 3 by decide)
  have r2 := hr.mono (show 3 <= 3 by decide)
  have r3 := hr.mono (show 3 <= 3 by decide)
  refine ⟨_, (zss_one (zs_ret (ze_call G r rfl mG kG bG .nil pass0 (za_c (ze_call G2 r2 rfl mG2 kG2 bG2 .nil pass0 (za_c (ze_call G3 r3 rfl mG3 kG3 bG3 .nil pass0 (za_s (ze_ix ix_list (zv 0) (zv 1) (fun _ _ => rfl)) za_nil)) (za_s (ze_ix ix_list (zv 0) (zv 2) (fun _ _ => rfl)) za_nil))) za_nil)))), fun ds d h => ?_⟩
  obtain ⟨fs, i, j, rfl, st, i1, j1, rfl⟩ := h
  obtain ⟨f, hf⟩ : ∃ f, fs[i]? = some f := ⟨_, List.getElem?_eq_getElem i1⟩
  obtain ⟨g, hg⟩ : ∃ g, fs[j]? = some g := ⟨_, List.getElem?_eq_getElem j1⟩
  have f1 := st f (List.mem_of_getElem? hf)
  have f2 := st g (List.mem_of_getElem? hg)
  have fc : F4 200 (pl (cj f)) := ⟨by rw [pl_length]; exact cj_len f1.1, nz_pl (nz_cj f1.1 f1.2.1), bd_pl (nz_cj f1.1 f1.2.1) (bd_cj f1.1 f1.2.2)⟩
  have fq : F4 402 (pl (qm g (pl (cj f)))) := ⟨by rw [pl_length]; exact qm_len f2.1 fc.1, nz_pl (nz_qm f2.1 fc.1 f2.2.1 fc.2.1), bd_mono (bd_pl (nz_qm f2.1 fc.1 f2.2.1 fc.2.1) (bd_qm f2.1 fc.1 f2.2.2 fc.2.2)) (by decide)⟩
  have er : rb f g = qf (rho fs i j) := by
    have pb := pr_betw (fun f hf => (st f hf).up (by decide)) hf hg
    unfold rb; rw [fr_qf pb.1, pb.2.2.2]
  exact S.ret1 (s := .dat (tI (qf (rho fs i j)))) (E1.to (E1.call (R := RRest4) (ds := [tI (pl (qm g (pl (cj f))))]) (A1.cons (E1.call (R := RThen4) (ds := [tI (pl (cj f)), tI g]) (A1.cons (E1.call (R := RBack4) (ds := [tI f]) (A1.cons (E1.ixL (E1.varL rfl) (E1.var rfl) (atI_nat (st_at hf))) A1.nil) ⟨f, rfl, f1.up (by decide), rfl⟩) (A1.cons (E1.ixL (E1.varL rfl) (E1.var rfl) (atI_nat (st_at hg))) A1.nil)) ⟨_, _, rfl, fc.up (by decide), f2.up (by decide), rfl⟩) A1.nil) ⟨_, rfl, fq.up (by decide), rfl⟩) (by rw [rb_rest f1 f2, er])) ⟨rfl, noLs_ints _⟩
theorem scLLess : FnScope ["_law_one", "_law_other"] ["_law_one", "_law_other"] (defScope sLLess) := ⟨rfl, rfl, rfl, by decide +kernel, rfl, by decide +kernel, by decide +kernel⟩
theorem ok_lless (F : Fun K "_law_less" "_law_less" sLLess f fd) :
    FnOk P w K mg base CX0 1 f fd ["_law_one", "_law_other"] (spP K RLess) := by
  refine okP F scLLess (fun ds d h => ?_) (fun cdv A0 outer s0 H0 E0 hr => ?_)
  . obtain ⟨a, b, c, e, rfl, _⟩ := h; rfl
  refine ⟨_, (zss_one (zs_ret (ze_cmpR op_lt (ze_op op_mulB (ze_ix ix_tup (zv 0) ze_int (fun _ _ => rfl)) (ze_ix ix_tup (zv 1) ze_int (fun _ _ => rfl))) (ze_op op_mulB (ze_ix ix_tup (zv 1) ze_int (fun _ _ => rfl)) (ze_ix ix_tup (zv 0) ze_int (fun _ _ => rfl))) (nomark _)))), fun ds d h => ?_⟩
  obtain ⟨a, b, c, e, rfl, hb, hd, b1, b2, b3, b4, rfl⟩ := h
  have he : decide (a * e < c * b) = decide (qv a b < qv c e) := by rw [decide_eq_decide, qv_lt hb hd]
  exact S.ret1 (s := .dat (.bool (decide (qv a b < qv c e)))) (E1.to (E1.lt (E1.mul (E1.ixT (E1.var rfl) E1.int rfl) (E1.ixT (E1.var rfl) E1.int rfl) (b1.mulOk b4)) (E1.mul (E1.ixT (E1.var rfl) E1.int rfl) (E1.ixT (E1.var rfl) E1.int rfl) (b3.mulOk b2))) (by rw [he])) ⟨rfl, rfl⟩
theorem scStandsT : FnScope ["_law_purse_here", "_law_most", "_law_some", "_law_stands_here", "_law_k", "_law_way", "_law_times"] ["_law_purse_here", "_law_most"] (defScope sStandsT) := ⟨rfl, rfl, rfl, by decide +kernel, rfl, by decide +kernel, by decide +kernel⟩
theorem ok_standst (F : Fun K "_law_stands" "_law_stands" sStandsT f fd)
    (G : FnOk P w K mg base CX0 1 g gd ["_law_purse_here", "_law_out_of"] spDraw) (bG : Binds K gd ["_law_purse_here", "_law_out_of"] []) (kG : PySem.W.keepIn K (.ref g) = true) (mG : mg "_law_draw" = some (.ref g))
    (G2 : FnOk P w K mg base CX0 3 g2 gd2 ["_law_purse_here", "_law_many"] (spU K RRow4)) (bG2 : Binds K gd2 ["_law_purse_here", "_law_many"] []) (kG2 : PySem.W.keepIn K (.ref g2) = true) (mG2 : mg "_law_row" = some (.ref g2)) (m_range : mg "range" = none) (m_len : mg "len" = none) (m_tuple : mg "tuple" = none) :
    FnOk P w K mg base CX0 4 f fd ["_law_purse_here", "_law_most"] (spU K RStandsT) := by
  refine okU F scStandsT (fun ds d h => ?_) (fun cdv A0 outer s0 H0 E0 hr => ?_)
  . obtain ⟨most, rfl, _⟩ := h; rfl
  have r := hr.mono (show 1 <= 3 by decide)
  have r2 := hr.mono (show 3 <= 3 by decide)
  refine ⟨_, (zss_cons (zs_set (i := 2) scStandsT.nd rfl (Or.inl rfl) (ze_lst (za_t (ze_tup (za_i (za_i (za_i (za_i za_nil))))) (za_t (ze_tup (za_i (za_i (za_i (za_i za_nil))))) (za_t (ze_tup (za_i (za_i (za_i (za_i za_nil))))) (za_t (ze_tup (za_i (za_i (za_i (za_i za_nil))))) (za_t (ze_tup (za_i (za_i (za_i (za_i za_nil))))) (za_t (ze_tup (za_i (za_i (za_u (ze_un un_neg ze_int) (za_i za_nil))))) (za_t (ze_tup (za_i (za_i (za_i (za_i za_nil))))) za_nil)))))))))
    (zss_cons (zs_set (i := 3) scStandsT.nd rfl (Or.inl rfl) (ze_lst za_nil))
    (zss_cons (zs_for PassesOwn.never rfl (zi_range1 rfl m_range (za_b (ze_op op_add ze_int (ze_call G r rfl mG kG bG .nil pass0 (za_n (zv 0) (za_n (zv 1) za_nil)))) za_nil)) (zg_name (i := 4) scStandsT.nd rfl (Or.inl rfl)) (zss_cons (zs_set (i := 5) scStandsT.nd rfl (Or.inl rfl) (ze_call G r rfl mG kG bG .nil pass0 (za_n (zv 0) (za_i za_nil))))
    (zss_one (zs_if (zt_cmpR op_eq (zv 5) ze_int (nomark _)) (zss_one (zs_expr (ze_append (zv 3) (ze_ix ix_list (zv 2) (ze_call G r rfl mG kG bG .nil pass0 (za_n (zv 0) (za_i za_nil))) pix_call)))) (zss_one (zs_if (ZW.pt (zw_and (zt_cmpR op_eq (zv 5) ze_int (nomark _)) (zw_and1 (zt_cmpR op_gt (ze_callB call_len_seq rfl m_len PySem.boot_len (za_n (zv 3) za_nil)) ze_int (nomark _))))) (zss_cons (zs_set (i := 6) scStandsT.nd rfl (Or.inr rfl) (ze_ix ix_list (ze_lst (za_i (za_u (ze_un un_neg ze_int) (za_i (za_u (ze_un un_neg ze_int) za_nil))))) (ze_call G r rfl mG kG bG .nil pass0 (za_n (zv 0) (za_i za_nil))) pix_call) sw_sub)
    (zss_one (zs_expr (ze_append (zv 3) (ze_callTy call_tuple_of rfl m_tuple (by rfl) (za_cons (ze_comp (own := ["_law_number_here"]) scStandsT rfl ⟨by decide +kernel, rfl, by decide +kernel, by decide +kernel, by decide +kernel, by decide +kernel, by decide +kernel, by decide +kernel, by decide +kernel⟩ (zi_tup (ze_ix ix_list (zv 3) (ze_call G r rfl mG kG bG .nil pass0 (za_n (zv 0) (za_c (ze_callB call_len_seq rfl m_len PySem.boot_len (za_n (zv 3) za_nil)) za_nil))) pix_call)) (fun C fp s H nd => zg_name (i := 0) nd rfl (Or.inl rfl)) (fun C fp s H => zts_nil) (fun C fp s H => (ze_op op_mulB (zv 7) (zv 0)))) za_nil)))))) (zss_one (zs_expr (ze_append (zv 3) (ze_call G2 r2 rfl mG2 kG2 bG2 .nil pass0 (za_n (zv 0) (za_i za_nil))))))))))))
    (zss_one (zs_ret (zv 3)))))), fun q0 ds C h => ?_⟩
  obtain ⟨most, rfl, m1, m9, rfl⟩ := h
  refine S.letO (ds := [tI [1, 0, 0, 0], tI [1, 1, 0, 0], tI [0, 1, 0, 0], tI [1, 1, 1, 1], tI [0, 1, 1, 0], tI [1, 0, -1, 0], tI [2, 1, 0, 0]]) (E1.li (by (walk_at "au3")) rfl (by show 7 <= sizeLine; decide)) rfl ?_
  refine S.frz (i := 2) rfl ?_
  refine S.letO (ds := []) (E1.li A1.nil rfl (lsz (n := 0) rfl z0)) rfl ?_
  refine S.seq (M := fun τ' => ∃ (fs : List (List Int)) (o1 o2 o3 : Sl), τ' = [.pu, .dat (.int most), .dat (.list [tI [1, 0, 0, 0], tI [1, 1, 0, 0], tI [0, 1, 0, 0], tI [1, 1, 1, 1], tI [0, 1, 1, 0], tI [1, 0, -1, 0], tI [2, 1, 0, 0]]), .own (fs.map tI), o1, o2, o3] /\ 1 <= fs.length /\ (fs.length : Int) <= most /\ Sts 100 fs) ?_ fun τ' ⟨fs, o1, o2, o3, eτ, l1, l2, st⟩ => ?_
  . refine S.forC (WkC.rng (P := fun j => 1 <= j /\ j <= most) (EI.mono (EI.op EI.lit (EI.draw (m := most) (A1.cons (E1.varP rfl) (A1.cons (E1.var rfl) A1.nil)) (by omega) (by omega))) fun k ⟨i, j, hi, hj, ek⟩ => by omega) (fun j hj => by omega)) ?_
    rintro ds ⟨j, ⟨j1, j2⟩, rfl⟩
    refine ⟨fun i τ' => ∃ (fs : List (List Int)) (o1 o2 o3 : Sl), τ' = [.pu, .dat (.int most), .dat (.list [tI [1, 0, 0, 0], tI [1, 1, 0, 0], tI [0, 1, 0, 0], tI [1, 1, 1, 1], tI [0, 1, 1, 0], tI [1, 0, -1, 0], tI [2, 1, 0, 0]]), .own (fs.map tI), o1, o2, o3] /\ fs.length = i /\ Sts (80 + 2 * i) fs, ⟨[], _, _, _, rfl, rfl, fun f h => by simp at h⟩, ?_, ?_⟩
    . rintro i d τ1 hd ⟨fs, o1, o2, o3, rfl, li, st⟩
      obtain ⟨hi, rfl⟩ := rangeD_get hd
      have lz : (fs.map tI).length < sizeLine := by rw [List.length_map, li]; exact Nat.lt_of_lt_of_le (show i < 10 by omega) (by decide)
      have up : Sts (80 + 2 * (i + 1)) fs := fun f hf => (st f hf).up (by omega)
      have add : ∀ {f : List Int}, F4 (80 + 2 * (i + 1)) f -> Sts (80 + 2 * (i + 1)) (fs ++ [f]) := fun hf g hg => by
        rcases List.mem_append.mp hg with h | h
        . exact up g h
        . rw [List.mem_singleton.mp h]; exact hf
      have fin : ∀ {f : List Int} {o4 o5 : Sl}, F4 (80 + 2 * (i + 1)) f -> ∃ (fs' : List (List Int)) (o1 o2 o3 : Sl), [.pu, .dat (.int most), .dat (.list [tI [1, 0, 0, 0], tI [1, 1, 0, 0], tI [0, 1, 0, 0], tI [1, 1, 1, 1], tI [0, 1, 1, 0], tI [1, 0, -1, 0], tI [2, 1, 0, 0]]), .own (fs.map tI ++ [tI f]), .dat (.int (0 + (i : Int))), o4, o5] = [.pu, .dat (.int most), .dat (.list [tI [1, 0, 0, 0], tI [1, 1, 0, 0], tI [0, 1, 0, 0], tI [1, 1, 1, 1], tI [0, 1, 1, 0], tI [1, 0, -1, 0], tI [2, 1, 0, 0]]), .own (fs'.map tI), o1, o2, o3] /\ fs'.length = i + 1 /\ Sts (80 + 2 * (i + 1)) fs' := fun hf => ⟨fs ++ [_], _, _, _, by rw [List.map_append]; rfl, by rw [List.length_append, li]; rfl, add hf⟩
      refine ⟨_, Gd.name, ?_⟩
      refine S.letC (EI.draw (A1.cons (E1.varP rfl) (A1.cons E1.int A1.nil)) (by decide : (0 : Int) < 4) (by decide)) (fun s ⟨_, e, _⟩ => by rw [e]; rfl) fun s ⟨w, e, w0, w1⟩ => ?_
      subst e
      refine S.if1 (T1.test (E1.eq (E1.var rfl) E1.int)) (fun _ => ?_) (fun hw => ?_)
      . refine S.append (i := 3) (C := fun d => ∃ f, d = tI f /\ F4 (80 + 2 * (i + 1)) f) rfl (E.mono (E.pick (ms := [tI [1, 0, 0, 0], tI [1, 1, 0, 0], tI [0, 1, 0, 0], tI [1, 1, 1, 1], tI [0, 1, 1, 0], tI [1, 0, -1, 0], tI [2, 1, 0, 0]]) (E1.varL rfl) (EI.draw (A1.cons (E1.varP rfl) (A1.cons E1.int A1.nil)) (by decide : (0 : Int) < 7) (by decide)) fun d h => h) ?_) lz ?_
        . rintro s ⟨d, rfl, hd⟩
          have : ∃ f, d = tI f /\ F4 80 f := by
            simp only [List.mem_cons, List.mem_nil_iff, or_false] at hd
            rcases hd with rfl | rfl | rfl | rfl | rfl | rfl | rfl
            . exact ⟨_, rfl, rfl, ⟨1, by simp, by decide⟩, bd_mono (show Bd 2 _ by unfold Bd; decide) (by decide)⟩
            . exact ⟨_, rfl, rfl, ⟨1, by simp, by decide⟩, bd_mono (show Bd 2 _ by unfold Bd; decide) (by decide)⟩
            . exact ⟨_, rfl, rfl, ⟨1, by simp, by decide⟩, bd_mono (show Bd 2 _ by unfold Bd; decide) (by decide)⟩
            . exact ⟨_, rfl, rfl, ⟨1, by simp, by decide⟩, bd_mono (show Bd 2 _ by unfold Bd; decide) (by decide)⟩
            . exact ⟨_, rfl, rfl, ⟨1, by simp, by decide⟩, bd_mono (show Bd 2 _ by unfold Bd; decide) (by decide)⟩
            . exact ⟨_, rfl, rfl, ⟨1, by simp, by decide⟩, bd_mono (show Bd 2 _ by unfold Bd; decide) (by decide)⟩
            . exact ⟨_, rfl, rfl, ⟨2, by simp, by decide⟩, bd_mono (show Bd 2 _ by unfold Bd; decide) (by decide)⟩
          obtain ⟨f, rfl, hf⟩ := this
          exact ⟨_, rfl, noLs_ints _, f, rfl, hf.up (by omega)⟩
        . rintro d ⟨f, rfl, hf⟩
          exact fin hf
      . refine S.iff (T.and (C := fun b => decide (w = 1) = b) (D := fun b => b = true -> 0 < fs.length) (T1.test (E1.eq (E1.var rfl) E1.int)) (fun _ => (T1.test (E1.gt (E1.lenL (A1.cons (E1.varO rfl) A1.nil)) E1.int)).mono (fun b hb h => ?_)) (fun _ h => by cases h)) (fun hc => ?_) (fun _ => ?_)
        . subst hb
          rw [List.length_map] at h
          have := of_decide_eq_true h
          omega
        . have hc := hc rfl
          refine S.letC (EI.pick (ms := [1, -1, 3, -2]) (E1.vwo (by (walk_at "au3"))) (EI.draw (A1.cons (E1.varP rfl) (A1.cons E1.int A1.nil)) (by decide : (0 : Int) < 4) (by decide)) fun d hd => hd) (fun s ⟨_, e, _⟩ => by rw [e]; rfl) fun s ⟨m, e3, hm⟩ => ?_
          subst e3
          have bm : Bt m 2 /\ m ≠ 0 := by
            simp only [List.mem_cons, List.mem_nil_iff, or_false] at hm
            rcases hm with rfl | rfl | rfl | rfl <;> (unfold Bt; decide)
          refine S.append (i := 3) (C := fun d => ∃ f, d = tI f /\ F4 (80 + 2 * (i + 1)) f) rfl (E.mono (E.tupC (E.compCW (Cd := fun d e => ∃ n : Int, d = .int n /\ e = .int (m * n)) (WkC.tup (DD := fun ds => ∃ f, ds = f.map .int /\ F4 (80 + 2 * i) f) (E.mono (E.pick (ms := fs.map tI) (E1.varO rfl) (EI.draw (m := (fs.length : Int)) (A1.cons (E1.varP rfl) (A1.cons (E1.to (E1.lenL (A1.cons (E1.varO rfl) A1.nil)) (by rw [List.length_map])) A1.nil)) (by omega) (by omega)) fun d h => by rw [List.length_map]; exact h) ?_)) ?_ ?_)) ?_) lz ?_
          . rintro s ⟨d, rfl, hd⟩
            obtain ⟨f, hf, rfl⟩ := List.mem_map.mp hd
            exact ⟨_, rfl, f, rfl, st f hf⟩
          . rintro ds ⟨f, rfl, hf⟩ d hd
            obtain ⟨n, hn, rfl⟩ := List.mem_map.mp hd
            have bn : Bt n (80 + 2 * i) := hf.2.2 n hn
            exact E1.of (E1.mul (E1.var rfl) (E1.var rfl) (bm.1.mulOk bn (by decide) (by omega))) ⟨_, rfl, n, rfl, rfl⟩
          . rintro ds ⟨f, rfl, hf⟩
            rw [List.length_map, hf.1]; exact z4
          . rintro s ⟨es, rfl, ds, ⟨f, rfl, hf⟩, le, he⟩
            have ee : es = (f.map (m * ·)).map .int := by
              refine ext_of (by rw [le]; simp) fun i e h => ?_
              obtain ⟨d, h1, n, rfl, rfl⟩ := he i e h
              rw [List.getElem?_map] at h1
              rw [List.getElem?_map, List.getElem?_map]
              cases hh : f[i]? with
              | none => rw [hh] at h1; cases h1
              | some k => rw [hh] at h1; cases h1; rfl
            subst ee
            refine ⟨_, rfl, noLs_ints _, f.map (m * ·), rfl, by rw [List.length_map]; exact hf.1, nz_mul bm.2 hf.2.1, fun k hk => ?_⟩
            obtain ⟨n, hn, rfl⟩ := List.mem_map.mp hk
            have bn : Bt n (80 + 2 * i) := hf.2.2 n hn
            exact (bm.1.mul bn).up (by omega)
          . rintro d ⟨f, rfl, hf⟩
            exact fin hf
        . refine S.append (i := 3) (C := fun d => ∃ f, d = tI f /\ F4 (80 + 2 * (i + 1)) f) rfl (E.mono (E.callU (R := RRow4) (ds := [.int 4]) (A1.cons (E1.varP rfl) (A1.cons E1.int A1.nil)) (.inl ⟨rfl, rfl⟩)) ?_) lz ?_
          . rintro s ⟨d, rfl, a, b, c, e, rfl, nz, bd⟩
            exact ⟨_, rfl, rfl, _, rfl, rfl, nz, bd_mono bd (Nat.pow_le_pow_right (by decide) (by omega))⟩
          . rintro d ⟨f, rfl, hf⟩
            exact fin hf
    . rintro τ1 ⟨fs, o1, o2, o3, rfl, li, st⟩
      rw [rangeD_len] at li st
      exact ⟨fs, _, _, _, rfl, by omega, by omega, fun f hf => (st f hf).up (by omega)⟩
  subst eτ
  exact S.retO (i := 3) (ds := fs.map tI) rfl ⟨_, ⟨fs, rfl, l1, l2, st⟩, rfl, noLs_tIs⟩
theorem scBest : FnScope ["_law_stands_here", "_law_ways", "_law_other", "_law_best_here", "_law_places", "_law_least"] ["_law_stands_here", "_law_ways", "_law_other"] (defScope sBest) := ⟨rfl, rfl, rfl, by decide +kernel, rfl, by decide +kernel, by decide +kernel⟩
theorem ok_best (F : Fun K "_law_best" "_law_best" sBest f fd)
    (G : FnOk P w K mg base CX0 1 g gd ["_law_one", "_law_other"] (spP K RLess)) (bG : Binds K gd ["_law_one", "_law_other"] []) (kG : PySem.W.keepIn K (.ref g) = true) (mG : mg "_law_less" = some (.ref g)) :
    FnOk P w K mg base CX0 2 f fd ["_law_stands_here", "_law_ways", "_law_other"] (spP K RBest79) := by
  refine okP F scBest (fun ds d h => ?_) (fun cdv A0 outer s0 H0 E0 hr => ?_)
  . obtain ⟨fs, ws, other, rfl, _⟩ := h; rfl
  have r := hr.mono (show 1 <= 1 by decide)
  refine ⟨_, (zss_cons (zs_set (i := 3) scBest.nd rfl (Or.inl rfl) (ze_tup (za_u (ze_un un_neg ze_int) (za_i za_nil))))
    (zss_cons (zs_for PassesOwn.never rfl (zi_list (zv 1)) (zg_tup rfl (zgs_cons (zg_name (i := 4) scBest.nd rfl (Or.inl rfl)) (zgs_cons (zg_name (i := 5) scBest.nd rfl (Or.inl rfl)) zgs_nil))) (zss_one (zs_if (ZW.pt (zw_and (zt_cmpR op_eq (ze_ix ix_list (zv 4) (ze_un un_neg ze_int) (fun _ _ => rfl)) (zv 2) (nomark _)) (zw_and1 (zt_val (ze_call G r rfl mG kG bG .nil pass0 (za_n (zv 3) (za_n (zv 5) za_nil))))))) (zss_one (zs_set (i := 3) scBest.nd rfl (Or.inl rfl) (zv 5))) zss_nil)))
    (zss_one (zs_ret (zv 3))))), fun ds d h => ?_⟩
  obtain ⟨fs, ws, other, rfl, hw, rfl⟩ := h
  refine S.let1 (s := .dat (tI (qf (-1)))) (E1.to (s := .dat (tI [-1, 1])) (E1.tu (A1.cons (E1.neg E1.int) (A1.cons E1.int A1.nil)) rfl (lsz (n := 2) rfl z2)) rfl) ?_
  refine S.seq (M := fun τ' => ∃ (o4 o5 : Sl), τ' = [.dat (stD fs), .dat (.list (ws.map wD)), .dat (.int other), .dat (tI (qf (bestF ws other (-1)))), o4, o5]) ?_ fun τ' ⟨o4, o5, eτ⟩ => ?_
  . refine S.for (Wk.lst (E1.var rfl)) (fun k τ' => ∃ (b : Rat) (o4 o5 : Sl), b = bestF (ws.take k) other (-1) /\ QB8 b /\ τ' = [.dat (stD fs), .dat (.list (ws.map wD)), .dat (.int other), .dat (tI (qf b)), o4, o5]) ⟨-1, _, _, rfl, ⟨by unfold Bt; decide, by unfold Bt; decide⟩, rfl⟩ (fun k d τ1 hd ⟨b, o4, o5, eb, qb, e1⟩ => ?_) (fun τ1 ⟨b, o4, o5, eb, qb, e1⟩ => ⟨o4, o5, by rw [e1, eb, List.length_map, List.take_length]⟩)
    subst e1
    rw [List.getElem?_map] at hd
    cases hk : ws[k]? with
    | none => rw [hk] at hd; cases hd
    | some w =>
    rw [hk] at hd
    cases hd
    obtain ⟨ne, qw⟩ := hw w (List.mem_of_getElem? hk)
    have sn : bestF (ws.take (k + 1)) other (-1) = if w.1.getLastD 0 = other /\ b < w.2 then w.2 else b := by
      rw [take_snoc hk, eb]; unfold bestF; rw [List.foldl_append]; rfl
    obtain ⟨ps, r⟩ := w
    have ne' : ps ≠ [] := ne
    refine ⟨_, Gd.pair (x := iD (nI ps)) (y := tI (qf r)), ?_⟩
    refine S.if1 (b := decide (ps.getLastD 0 = other) && decide (b < r)) (T.and (D := fun z => (decide (ps.getLastD 0 = other) && decide (b < r)) = z) ((T1.test (E1.eq (E1.ixL (E1.varL rfl) (E1.neg E1.int) (atI_lastD ne')) (E1.var rfl))).eqn (c := decide (ps.getLastD 0 = other)) (decide_eq_decide.mpr (by omega))) (fun z => (T1.val (E1.call (R := RLess) (ds := [tI (qf b), tI (qf r)]) (A1.cons (E1.var rfl) (A1.cons (E1.var rfl) A1.nil)) (rless qb qw))).eqn (by rw [z, Bool.true_and])) (fun z => by rw [z, Bool.false_and])) (fun h => ?_) (fun h => S.next ⟨b, _, _, ?_, qb, rfl⟩)
    . rw [Bool.and_eq_true, decide_eq_true_iff, decide_eq_true_iff] at h
      exact S.asg1 (s := .dat (tI (qf r))) (E1.var rfl) ⟨r, _, _, by rw [sn, if_pos h], qw, rfl⟩
    . rw [Bool.and_eq_false_iff, decide_eq_false_iff_not, decide_eq_false_iff_not] at h
      rw [sn]; exact (if_neg fun z => h.elim (fun a => a z.1) fun a => a z.2).symm
  subst eτ
  exact S.ret1 (s := .dat (tI (qf (bestF ws other (-1))))) (E1.var rfl) ⟨rfl, noLs_ints _⟩
theorem scLonger : FnScope ["_law_stands_here", "_law_ways", "_law_found", "_law_last", "_law_turn", "_law_grown", "_law_places", "_law_least", "_law_place", "_law_far_rest"] ["_law_stands_here", "_law_ways"] (defScope sLonger) := ⟨rfl, rfl, rfl, by decide +kernel, rfl, by decide +kernel, by decide +kernel⟩
theorem ok_longer (F : Fun K "_law_longer" "_law_longer" sLonger f fd)
    (G : FnOk P w K mg base CX0 4 g gd ["_law_stands_here", "_law_one", "_law_other"] (spP K RStepQ)) (bG : Binds K gd ["_law_stands_here", "_law_one", "_law_other"] []) (kG : PySem.W.keepIn K (.ref g) = true) (mG : mg "_law_step" = some (.ref g))
    (G2 : FnOk P w K mg base CX0 1 g2 gd2 ["_law_one", "_law_other"] (spP K RLess)) (bG2 : Binds K gd2 ["_law_one", "_law_other"] []) (kG2 : PySem.W.keepIn K (.ref g2) = true) (mG2 : mg "_law_less" = some (.ref g2)) (m_list : mg "list" = none) (m_range : mg "range" = none) (m_len : mg "len" = none) (m_int : mg "int" = none) :
    FnOk P w K mg base CX0 5 f fd ["_law_stands_here", "_law_ways"] (spX K RLonger) := by
  refine okX F scLonger (fun ds d h => ?_) (fun cdv A0 outer s0 H0 E0 hr => ?_)
  . obtain ⟨fs, one, rfl, _⟩ := h; rfl
  have r := hr.mono (show 4 <= 4 by decide)
  have r2 := hr.mono (show 1 <= 4 by decide)
  refine ⟨_, (zss_cons (zs_set (i := 2) scLonger.nd rfl (Or.inl rfl) (ze_callTy call_list_of rfl m_list (by rfl) (za_n (zv 1) za_nil)))
    (zss_cons (zs_set (i := 3) scLonger.nd rfl (Or.inl rfl) (ze_callTy call_list_of rfl m_list (by rfl) (za_n (zv 1) za_nil)))
    (zss_cons (zs_for PassesOwn.never rfl (zi_range1 rfl m_range (za_c (ze_callB call_len_seq rfl m_len PySem.boot_len (za_n (zv 0) za_nil)) za_nil)) (zg_name (i := 4) scLonger.nd rfl (Or.inl rfl)) (zss_cons (zs_set (i := 5) scLonger.nd rfl (Or.inl rfl) (ze_lst za_nil))
    (zss_cons (zs_for PassesOwn.never rfl (zi_list (zv 3)) (zg_tup rfl (zgs_cons (zg_name (i := 6) scLonger.nd rfl (Or.inl rfl)) (zgs_cons (zg_name (i := 7) scLonger.nd rfl (Or.inl rfl)) zgs_nil))) (zss_one (zs_for PassesOwn.never rfl (zi_range1 rfl m_range (za_c (ze_callB call_len_seq rfl m_len PySem.boot_len (za_n (zv 0) za_nil)) za_nil)) (zg_name (i := 8) scLonger.nd rfl (Or.inl rfl)) (zss_one (zs_if (zt_cmpR (op_notInD hr.units) (zv 8) (zv 6) (by with_unfolding_all rfl)) (zss_cons (zs_set (i := 9) scLonger.nd rfl (Or.inl rfl) (ze_call G r rfl mG kG bG .nil pass0 (za_n (zv 0) (za_s (ze_ix ix_list (zv 6) (ze_un un_neg ze_int) (fun _ _ => rfl)) (za_n (zv 8) za_nil)))))
    (zss_one (zs_expr (ze_append (zv 5) (ze_tup (za_b (ze_op op_catS (zv 6) (ze_lst (za_n (zv 8) za_nil))) (za_s (ze_ix ix_list (ze_lst (za_n (zv 7) (za_n (zv 9) za_nil))) (ze_callTy call_int1 rfl m_int (by rfl) (za_c (ze_call G2 r2 rfl mG2 kG2 bG2 .nil pass0 (za_n (zv 9) (za_n (zv 7) za_nil))) za_nil)) pix_call) za_nil))))))) zss_nil)))))
    (zss_cons (zs_set (i := 2) scLonger.nd rfl (Or.inl rfl) (ze_op op_catS (zv 2) (zv 5)))
    (zss_one (zs_set (i := 3) scLonger.nd rfl (Or.inl rfl) (zv 5)))))))
    (zss_one (zs_ret (zv 2)))))), fun ds C h => ?_⟩
  obtain ⟨fs, one, rfl, st, hn, h1, rfl⟩ := h
  have st1 : Sts 1000 fs := fun f hf => (st f hf).up (by decide)
  refine S.let1 (s := .dat (.list ([([one], (1 : Rat))].map wD))) (E1.frz (E1.listOf (A1.cons (E1.varL rfl) A1.nil))) ?_
  refine S.let1 (s := .dat (.list ([([one], (1 : Rat))].map wD))) (E1.frz (E1.listOf (A1.cons (E1.varL rfl) A1.nil))) ?_
  refine S.seq (M := fun τ' => ∃ (found last : List (List Nat × Rat)) (o4 o5 o6 o7 o8 o9 : Sl), ((∀ w ∈ found, ∃ s, Way fs one s w.1 w.2) /\ (∀ s ps r, s <= fs.length -> Way fs one s ps r -> (ps, r) ∈ found) /\ (∀ w ∈ last, Way fs one fs.length w.1 w.2) /\ (∀ ps r, Way fs one fs.length ps r -> (ps, r) ∈ last) /\ last.length <= 5 ^ fs.length /\ found.length <= (fs.length + 1) * 5 ^ fs.length) /\ τ' = [.dat (stD fs), .dat (.list [wD ([one], 1)]), .dat (.list (found.map wD)), .dat (.list (last.map wD)), o4, o5, o6, o7, o8, o9]) ?_ fun τ' ⟨found, last, o4, o5, o6, o7, o8, o9, iv, eτ⟩ => ?_
  . refine S.for (Wk.rng (j := (fs.length : Int)) (n := fs.length) (A1.cons (E1.to (E1.lenL (A1.cons (E1.varL rfl) A1.nil)) (by rw [List.length_map])) A1.nil) (by omega) (by omega) (by omega)) (fun t τ' => ∃ (found last : List (List Nat × Rat)) (o4 o5 o6 o7 o8 o9 : Sl), ((∀ w ∈ found, ∃ s, Way fs one s w.1 w.2) /\ (∀ s ps r, s <= t -> Way fs one s ps r -> (ps, r) ∈ found) /\ (∀ w ∈ last, Way fs one t w.1 w.2) /\ (∀ ps r, Way fs one t ps r -> (ps, r) ∈ last) /\ last.length <= 5 ^ t /\ found.length <= (t + 1) * 5 ^ t) /\ τ' = [.dat (stD fs), .dat (.list [wD ([one], 1)]), .dat (.list (found.map wD)), .dat (.list (last.map wD)), o4, o5, o6, o7, o8, o9]) ⟨[([one], 1)], [([one], 1)], _, _, _, _, _, _, ⟨fun w hw => ?_, fun s ps r hs w => ?_, fun w hw => ?_, fun ps r w => ?_, Nat.le_refl 1, Nat.le_refl 1⟩, rfl⟩ (fun t d τ1 hd ⟨found, last, o4, o5, o6, o7, o8, o9, iv, e1⟩ => ?_) (fun τ1 h => by rw [rangeD_len] at h; exact h)
    . rw [List.mem_singleton] at hw; subst hw; exact ⟨0, .start⟩
    . obtain rfl : s = 0 := by omega
      cases w; exact List.mem_singleton.mpr rfl
    . rw [List.mem_singleton] at hw; subst hw; exact .start
    . cases w; exact List.mem_singleton.mpr rfl
    subst e1
    obtain ⟨t1, rfl⟩ := rangeD_get hd
    obtain ⟨v1, v2, v3, v4, v5, v6⟩ := iv
    have p5 : 5 ^ t <= 625 := Nat.le_trans (Nat.pow_le_pow_right (by decide) (show t <= 4 by omega)) (by decide)
    refine ⟨_, Gd.name, ?_⟩
    refine S.letO (ds := ([] : List (List Nat × Rat)).map wD) (E1.li A1.nil rfl (lsz (n := 0) rfl z0)) rfl ?_
    refine S.seq (M := fun τ' => ∃ (gr : List (List Nat × Rat)) (o6 o7 o8 o9 : Sl), ((∀ w ∈ gr, Way fs one (t + 1) w.1 w.2) /\ (∀ (j : Nat) (w : List Nat × Rat) (p : Nat), last[j]? = some w -> p < fs.length -> p ∉ w.1 -> (j < last.length \/ (j = last.length /\ p < 0)) -> (w.1 ++ [p], mn fs w.1 w.2 p) ∈ gr) /\ gr.length <= 5 * last.length + 0) /\ τ' = [.dat (stD fs), .dat (.list [wD ([one], 1)]), .dat (.list (found.map wD)), .dat (.list (last.map wD)), .dat (.int (0 + (t : Int))), .own (gr.map wD), o6, o7, o8, o9]) ?_ fun τ' ⟨gr, o6, o7, o8, o9, ⟨g1, g2, g3⟩, eτ⟩ => ?_
    . refine S.for (Wk.lst (E1.var rfl)) (fun k τ' => ∃ (gr : List (List Nat × Rat)) (o6 o7 o8 o9 : Sl), ((∀ w ∈ gr, Way fs one (t + 1) w.1 w.2) /\ (∀ (j : Nat) (w : List Nat × Rat) (p : Nat), last[j]? = some w -> p < fs.length -> p ∉ w.1 -> (j < k \/ (j = k /\ p < 0)) -> (w.1 ++ [p], mn fs w.1 w.2 p) ∈ gr) /\ gr.length <= 5 * k + 0) /\ τ' = [.dat (stD fs), .dat (.list [wD ([one], 1)]), .dat (.list (found.map wD)), .dat (.list (last.map wD)), .dat (.int (0 + (t : Int))), .own (gr.map wD), o6, o7, o8, o9]) ⟨[], _, _, _, _, ⟨fun w hw => (by cases hw), fun j w p _ _ _ h => by omega, Nat.zero_le _⟩, rfl⟩ (fun k d τ1 hd ⟨gr, o6, o7, o8, o9, iv, e1⟩ => ?_) (fun τ1 h => by rw [List.length_map] at h; exact h)
      subst e1
      rw [List.getElem?_map] at hd
      cases hk : last[k]? with
      | none => rw [hk] at hd; cases hd
      | some w =>
      rw [hk] at hd
      cases hd
      have wy := v3 w (List.mem_of_getElem? hk)
      have kl := (List.getElem?_eq_some_iff.mp hk).1
      obtain ⟨ps, r⟩ := w
      refine ⟨_, Gd.pair (x := iD (nI ps)) (y := tI (qf r)), ?_⟩
      refine S.for (Wk.rng (j := (fs.length : Int)) (n := fs.length) (A1.cons (E1.to (E1.lenL (A1.cons (E1.varL rfl) A1.nil)) (by rw [List.length_map])) A1.nil) (by omega) (by omega) (by omega)) (fun m τ' => ∃ (gr : List (List Nat × Rat)) (o8 o9 : Sl), ((∀ w ∈ gr, Way fs one (t + 1) w.1 w.2) /\ (∀ (j : Nat) (w : List Nat × Rat) (p : Nat), last[j]? = some w -> p < fs.length -> p ∉ w.1 -> (j < k \/ (j = k /\ p < m)) -> (w.1 ++ [p], mn fs w.1 w.2 p) ∈ gr) /\ gr.length <= 5 * k + m) /\ τ' = [.dat (stD fs), .dat (.list [wD ([one], 1)]), .dat (.list (found.map wD)), .dat (.list (last.map wD)), .dat (.int (0 + (t : Int))), .own (gr.map wD), .dat (iD (nI ps)), .dat (tI (qf r)), o8, o9]) ⟨gr, _, _, iv, rfl⟩ (fun m d τ1 hd ⟨gr, o8, o9, ⟨g1, g2, g3⟩, e1⟩ => ?_) (fun τ1 ⟨gr, o8, o9, ⟨g1, g2, g3⟩, e1⟩ => ?_)
      . subst e1
        obtain ⟨m1, rfl⟩ := rangeD_get hd
        rw [Int.zero_add]
        refine ⟨_, Gd.name, ?_⟩
        have lw := wy.last1 h1
        have wl := wy.len
        have tl := wy.lt h1
        refine S.if1 (b := !decide ((m : Int) ∈ nI ps)) (T1.test (E1.notInD (E1.var rfl) (E1.var rfl) rfl rfl rfl kq8_ints (mem_ints rfl))) (fun h => ?_) (fun h => S.next ⟨gr, .dat (.int m), o9, ⟨g1, fun j w p hj hp np hc => ?_, by omega⟩, by rw [Int.zero_add]; try rfl⟩)
        . have nm : m ∉ ps := fun z => by
            have : (m : Int) ∈ nI ps := List.mem_map.mpr ⟨m, z, rfl⟩
            rw [decide_eq_true this] at h; cases h
          refine S.let1 (s := .dat (tI (qf (rho fs (ps.getLastD 0) m)))) (E1.call (R := RStepQ) (ds := [stD fs, .int (ps.getLastD 0 : Nat), .int m]) (A1.cons (E1.var rfl) (A1.cons (E1.ixL (E1.varL rfl) (E1.neg E1.int) (atI_lastD wy.ne)) (A1.cons (E1.var rfl) A1.nil))) ⟨fs, _, m, rfl, st, lw, m1, rfl⟩) ?_
          refine S.appendX (i := 5) (ds := gr.map wD) (d := wD (ps ++ [m], mn fs ps r m)) rfl (E1.to (s := .dat (.tuple [iD (nI (ps ++ [m])), tI (qf (mn fs ps r m))])) (E1.tu (A1.cons (E1.to (s' := .dat (iD (nI (ps ++ [m])))) (E1.frz (E1.catVV (E1.varL rfl) (E1.vwo (E1.li (A1.cons (E1.var rfl) A1.nil) rfl (lsz (n := 1) rfl z1))) ?_)) ?_) (A1.cons (E1.ixL (d := tI (qf (mn fs ps r m))) (ds := [tI (qf r), tI (qf (rho fs (ps.getLastD 0) m))]) (i := if decide (rho fs (ps.getLastD 0) m < r) = true then 1 else 0) (E1.vwo (E1.li (A1.cons (E1.var rfl) (A1.cons (E1.var rfl) A1.nil)) rfl (lsz (n := 2) rfl z2))) (E1.boolI (E1.call (R := RLess) (ds := [tI (qf (rho fs (ps.getLastD 0) m)), tI (qf r)]) (A1.cons (E1.var rfl) (A1.cons (E1.var rfl) A1.nil)) (rless (qb_rho st1 lw m1).q8 (wy.qb st1 h1).q8))) ?_) A1.nil)) rfl (lsz (n := 2) rfl z2)) rfl) ?_ ⟨gr ++ [(ps ++ [m], mn fs ps r m)], .dat (.int m), .dat (tI (qf (rho fs (ps.getLastD 0) m))), ⟨fun w hw => ?_, fun j w p hj hp np hc => ?_, ?_⟩, ?_⟩
          . rw [List.length_map, len_nI, wl]; exact Nat.le_trans (show t + 1 + 1 <= 7 by omega) (by decide)
          . unfold iD; rw [nI_app, List.map_append]; rfl
          . unfold mn
            by_cases c : rho fs (ps.getLastD 0) m < r
            . simp only [c, decide_true, if_true]; rfl
            . simp only [c, decide_false, if_false, Bool.false_eq_true]; rfl
          . rw [List.length_map]; exact Nat.lt_of_le_of_lt (show gr.length <= 3200 by omega) (by decide)
          . rcases List.mem_append.mp hw with hw | hw
            . exact g1 w hw
            . rw [List.mem_singleton] at hw; subst hw; exact .grow wy m1 nm
          . by_cases c : j = k /\ p = m
            . obtain ⟨rfl, rfl⟩ := c
              rw [hk] at hj; cases hj
              simp
            . exact List.mem_append.mpr (.inl (g2 j w p hj hp np (by omega)))
          . rw [List.length_append, List.length_singleton]; omega
          . rw [Int.zero_add, List.map_append]; try rfl
        . refine g2 j w p hj hp np ?_
          have pm : ¬ (j = k /\ p = m) := fun ⟨e1, e2⟩ => by
            subst e1 e2
            rw [hk] at hj; cases hj
            have : (p : Int) ∉ nI ps := fun z => by
              obtain ⟨y, hy, e⟩ := List.mem_map.mp z
              exact np (by rw [show p = y by omega]; exact hy)
            rw [decide_eq_false this] at h; cases h
          omega
      . rw [rangeD_len] at g2 g3
        exact ⟨gr, _, _, _, _, ⟨g1, fun j w p hj hp np hc => g2 j w p hj hp np (by omega), by omega⟩, e1⟩
    subst eτ
    refine S.frz (i := 5) rfl ?_
    have pp : 5 ^ (t + 1) = 5 * 5 ^ t := by rw [Nat.pow_succ]; omega
    have fl : found.length <= 3125 := Nat.le_trans v6 (Nat.le_trans (Nat.mul_le_mul (show t + 1 <= 5 by omega) p5) (by decide))
    have hz : (found.map wD).length + (gr.map wD).length <= sizeLine := by
      rw [List.length_map, List.length_map]; exact Nat.le_trans (show _ <= 7000 by omega) (by decide)
    refine S.let1 (s := .dat (.list ((found ++ gr).map wD))) (E1.to (E1.frz (E1.catVV (E1.varL rfl) (E1.varL rfl) hz)) (by rw [List.map_append])) ?_
    refine S.asg1 (s := .dat (.list (gr.map wD))) (E1.var rfl) ⟨found ++ gr, gr, _, _, _, _, _, _, ⟨fun w hw => ?_, fun s ps r hs w => ?_, g1, fun ps r w => ?_, by omega, ?_⟩, rfl⟩
    . rcases List.mem_append.mp hw with hw | hw
      . exact v1 w hw
      . exact ⟨_, g1 w hw⟩
    . rcases Nat.lt_or_eq_of_le hs with z | z
      . exact List.mem_append.mpr (.inl (v2 s ps r (by omega) w))
      . subst z
        refine List.mem_append.mpr (.inr ?_)
        cases w with
        | @grow _ ps r p w p1 p2 =>
          obtain ⟨j, hj⟩ := List.getElem?_of_mem (v4 ps r w)
          exact g2 j _ p hj p1 p2 (.inl (List.getElem?_eq_some_iff.mp hj).1)
    . cases w with
      | @grow _ ps r p w p1 p2 =>
        obtain ⟨j, hj⟩ := List.getElem?_of_mem (v4 ps r w)
        exact g2 j _ p hj p1 p2 (.inl (List.getElem?_eq_some_iff.mp hj).1)
    . rw [List.length_append, pp, show (t + 1 + 1) * (5 * 5 ^ t) = 5 * ((t + 1) * 5 ^ t) + 5 * 5 ^ t by rw [Nat.add_mul, Nat.one_mul, Nat.mul_left_comm]]; omega
  subst eτ
  exact S.ret1 (s := .dat (.list (found.map wD))) (E1.var rfl) ⟨_, ⟨found, rfl, iv.1, fun s ps r w => iv.2.1 s ps r (Nat.le_of_lt (w.lt h1)) w⟩, rfl⟩
theorem scLotsR : FnScope ["_law_stands_here", "_law_one", "_law_other", "_law_best_here", "_law_some", "_law_far_rest", "_law_lot"] ["_law_stands_here", "_law_one", "_law_other", "_law_best_here"] (defScope sLotsR) := ⟨rfl, rfl, rfl, by decide +kernel, rfl, by decide +kernel, by decide +kernel⟩
theorem ok_lotsr (F : Fun K "_law_lots_right" "_law_lots_right" sLotsR f fd)
    (G : FnOk P w K mg base CX0 4 g gd ["stands", "one", "other"] (spP K RStep)) (bG : Binds K gd ["stands", "one", "other"] []) (kG : PySem.W.keepIn K (.ref g) = true) (mG : mg "step" = some (.ref g))
    (G2 : FnOk P w K mg base CX0 5 g2 gd2 ["stands", "rest"] (spO K RLots)) (bG2 : Binds K gd2 ["stands", "rest"] []) (kG2 : PySem.W.keepIn K (.ref g2) = true) (mG2 : mg "lots" = some (.ref g2))
    (G3 : FnOk P w K mg base CX0 1 g3 gd3 ["_law_one", "_law_other"] (spP K RLess)) (bG3 : Binds K gd3 ["_law_one", "_law_other"] []) (kG3 : PySem.W.keepIn K (.ref g3) = true) (mG3 : mg "_law_less" = some (.ref g3)) (m_range : mg "range" = none) (m_len : mg "len" = none) :
    FnOk P w K mg base CX0 6 f fd ["_law_stands_here", "_law_one", "_law_other", "_law_best_here"] (spP K RLotsR) := by
  refine okP F scLotsR (fun ds d h => ?_) (fun cdv A0 outer s0 H0 E0 hr => ?_)
  . obtain ⟨fs, one, other, r, ps, sp, rfl, _⟩ := h; rfl
  have r := hr.mono (show 4 <= 5 by decide)
  have r2 := hr.mono (show 5 <= 5 by decide)
  have r3 := hr.mono (show 1 <= 5 by decide)
  refine ⟨_, (zss_cons (zs_comp (i := 4) (own := ["_law_a"]) scLotsR rfl ⟨by decide +kernel, rfl, by decide +kernel, by decide +kernel, by decide +kernel, by decide +kernel, by decide +kernel, by decide +kernel, by decide +kernel⟩ (zi_range1 rfl m_range (za_c (ze_callB call_len_seq rfl m_len PySem.boot_len (za_n (zv 0) za_nil)) za_nil)) (fun C fp s H nd => zg_name (i := 0) nd rfl (Or.inl rfl)) (fun C fp s H => zts_nil) (fun C fp s H => (ze_call G r rfl mG kG bG .nil pass0 (za_n (zv 1) (za_n (zv 0) (za_n (zv 2) za_nil))))) scLotsR.nd rfl (Or.inl rfl) rfl)
    (zss_cons (zs_set (i := 4) scLotsR.nd rfl (Or.inl rfl) (ze_op op_catS (zv 4) (ze_comp (own := ["_law_a"]) scLotsR rfl ⟨by decide +kernel, rfl, by decide +kernel, by decide +kernel, by decide +kernel, by decide +kernel, by decide +kernel, by decide +kernel, by decide +kernel⟩ (zi_range1 rfl m_range (za_c (ze_callB call_len_seq rfl m_len PySem.boot_len (za_n (zv 0) za_nil)) za_nil)) (fun C fp s H nd => zg_name (i := 0) nd rfl (Or.inl rfl)) (fun C fp s H => zts_nil) (fun C fp s H => (ze_call G r rfl mG kG bG .nil pass0 (za_n (zv 1) (za_n (zv 0) (za_n (zv 3) za_nil))))))))
    (zss_cons (zs_for PassesOwn.never rfl (zi_list (zv 4)) (zg_name (i := 5) scLotsR.nd rfl (Or.inl rfl)) (zss_cons (zs_set (i := 6) scLotsR.nd rfl (Or.inl rfl) (ze_ix ix_list (ze_comp (own := ["_law_places"]) scLotsR rfl ⟨by decide +kernel, rfl, by decide +kernel, by decide +kernel, by decide +kernel, by decide +kernel, by decide +kernel, by decide +kernel, by decide +kernel⟩ (zi_list (ze_call G2 r2 rfl mG2 kG2 bG2 .nil pass0 (za_n (zv 0) (za_n (zv 5) za_nil)))) (fun C fp s H nd => zg_name (i := 0) nd rfl (Or.inl rfl)) (fun C fp s H => zts_one (zt_cmpR (op_inDC hr.units) (zv 2) (zv 0) (by with_unfolding_all rfl))) (fun C fp s H => (zv 0))) ze_int (fun _ _ => rfl)) sw_sub)
    (zss_one (zs_if (zt_cmpR op_eq (ze_cmpR (op_inD hr.units) (zv 2) (zv 6) (by with_unfolding_all rfl)) (ze_call G3 r3 rfl mG3 kG3 bG3 .nil pass0 (za_n (zv 3) (za_n (zv 5) za_nil))) (nomark _)) (zss_one (zs_ret ze_bl)) zss_nil))))
    (zss_one (zs_ret ze_bl))))), fun ds d h => ?_⟩
  obtain ⟨fs, one, other, r, ps, sp, rfl, st, hn, h1, h2, ne, qr, cm, rfl⟩ := h
  have st1 : Sts 1000 fs := fun f hf => (st f hf).up (by decide)
  have er : ∀ {i j : Nat} (hi : i < fs.length) (hj : j < fs.length), rb fs[i] fs[j] = qf (rho fs i j) := fun {i j} hi hj => by
    have pb := pr_betw st1 (List.getElem?_eq_getElem hi) (List.getElem?_eq_getElem hj)
    unfold rb; rw [fr_qf pb.1, pb.2.2.2]
  have zn : fs.length <= sizeLine := Nat.le_trans hn (by decide)
  refine S.let1 (s := .dat (.list ((List.range fs.length).map fun a => tI (qf (rho fs a one))))) (E1.frz (E1.compR (g := fun a => tI (qf (rho fs a one))) (Wk.rng (j := (fs.length : Int)) (n := fs.length) (A1.cons (E1.to (E1.lenL (A1.cons (E1.varL rfl) A1.nil)) (by rw [List.length_map])) A1.nil) (by omega) (by omega) (by omega)) (fun a ha => (E1.to (E1.call (R := RStep) (ds := [stD fs, .int a, .int one]) (A1.cons (E1.var rfl) (A1.cons (E1.var rfl) (A1.cons (E1.var rfl) A1.nil))) ⟨fs, a, one, _, _, rfl, st1, List.getElem?_eq_getElem ha, List.getElem?_eq_getElem h1, rfl⟩) (congrArg (fun l => Sl.dat (tI l)) (er ha h1)))) zn)) ?_
  let qs : List Rat := (List.range fs.length).map (fun a => rho fs a one) ++ (List.range fs.length).map (fun a => rho fs a other)
  have qo : ∀ q ∈ qs, QB8 q := fun q hq => by
    rcases List.mem_append.mp hq with hq | hq
    . obtain ⟨a, ha, rfl⟩ := List.mem_map.mp hq
      exact (qb_rho st1 (List.mem_range.mp ha) h1).q8
    . obtain ⟨a, ha, rfl⟩ := List.mem_map.mp hq
      exact (qb_rho st1 (List.mem_range.mp ha) h2).q8
  refine S.let1 (s := .dat (.list (qs.map fun q => tI (qf q)))) (E1.to (E1.frz (E1.catVV (E1.varL rfl) (E1.vwo (E1.compR (g := fun a => tI (qf (rho fs a other))) (Wk.rng (j := (fs.length : Int)) (n := fs.length) (A1.cons (E1.to (E1.lenL (A1.cons (E1.varL rfl) A1.nil)) (by rw [List.length_map])) A1.nil) (by omega) (by omega) (by omega)) (fun a ha => (E1.to (E1.call (R := RStep) (ds := [stD fs, .int a, .int other]) (A1.cons (E1.var rfl) (A1.cons (E1.var rfl) (A1.cons (E1.var rfl) A1.nil))) ⟨fs, a, other, _, _, rfl, st1, List.getElem?_eq_getElem ha, List.getElem?_eq_getElem h2, rfl⟩) (congrArg (fun l => Sl.dat (tI l)) (er ha h2)))) zn)) ?_)) ?_) ?_
  . rw [List.length_map, List.length_map, List.length_range]; exact Nat.le_trans (show _ <= 10 by omega) (by decide)
  . show _ = Sl.dat (.list (((List.range fs.length).map _ ++ (List.range fs.length).map _).map _))
    rw [List.map_append, List.map_map, List.map_map]; rfl
  refine S.seq (M := fun τ' => ∃ o5 o6 : Sl, τ' = [.dat (stD fs), .dat (.int one), .dat (.int other), .dat (tI (qf r)), .dat (.list (qs.map fun q => tI (qf q))), o5, o6]) ?_ fun τ' ⟨o5, o6, eτ⟩ => ?_
  . refine S.for (Wk.lst (E1.var rfl)) (fun k τ' => ∃ o5 o6 : Sl, τ' = [.dat (stD fs), .dat (.int one), .dat (.int other), .dat (tI (qf r)), .dat (.list (qs.map fun q => tI (qf q))), o5, o6]) ⟨_, _, rfl⟩ (fun k d τ1 hd ⟨o5, o6, e1⟩ => ?_) (fun τ1 h => h)
    subst e1
    rw [List.getElem?_map] at hd
    cases hk : qs[k]? with
    | none => rw [hk] at hd; cases hd
    | some q =>
    rw [hk] at hd
    cases hd
    refine ⟨_, Gd.name, ?_⟩
    have q8 := qo q (List.mem_of_getElem? hk)
    have sy := adj_symm (rho_symm st1) (q := qv q.num q.den)
    obtain ⟨x, l, ex, mx⟩ := lot_first sy h1 (fun i j h => ⟨h.1, h.2.1⟩)
    have cc := calm_con (q := qv q.num q.den) cm ne
    obtain ⟨ll1, ll2⟩ := lots_len (A := adj fs (qv q.num q.den)) (n := fs.length)
    refine S.let1 (s := .dat (iD (nI x))) (E1.ixL (i := 0) (E1.vwo (E1.compF (ds := (((lotsL (adj fs (qv q.num q.den)) fs.length).map nI).map iD)) (f := fun d => d) (kp := hasI one) (Wk.lst (E1.callNest (R := RLots) (ds := [stD fs, tI [q.num, q.den]]) (xss := (lotsL (adj fs (qv q.num q.den)) fs.length).map nI) (A1.cons (E1.var rfl) (A1.cons (E1.var rfl) A1.nil)) ⟨fs, q.num, q.den, rfl, st1, by omega, qpos q, q8.1, q8.2, rfl⟩ (fun o e => e))) (fun d hd => ?_) (fun d hd _ => (E1.var rfl)) ?_)) E1.int ?_) ?_
    . obtain ⟨y, hy, rfl⟩ := List.mem_map.mp hd
      obtain ⟨z, hz, rfl⟩ := List.mem_map.mp hy
      exact (T1.test (E1.inD (E1.var rfl) (E1.var rfl) rfl rfl rfl kq8_ints (mem_ints rfl))).eqn hasI_iD.symm
    . rw [List.length_map, List.length_map]; exact Nat.le_trans (Nat.le_trans ll1 hn) (by decide)
    . rw [hasI_filter, ex]; exact atI_nat (j := 0) rfl
    refine S.ifF ((T1.test (E1.eqB (E1.inD (E1.var rfl) (E1.var rfl) rfl rfl rfl kq8_ints (mem_ints rfl)) (E1.call (R := RLess) (ds := [tI (qf r), tI (qf q)]) (A1.cons (E1.var rfl) (A1.cons (E1.var rfl) A1.nil)) (rless qr q8)))).eqn ?_) (S.next ⟨_, _, rfl⟩)
    have me : (other : Int) ∈ nI x ↔ other ∈ x := by
      unfold nI; rw [List.mem_map]
      exact ⟨fun ⟨y, hy, e⟩ => by rw [show other = y by omega]; exact hy, fun h => ⟨other, h, rfl⟩⟩
    have fin : (other : Int) ∈ nI x ↔ ¬ r < q := by rw [me, mx other h2, cc, qf_val]
    by_cases c : r < q
    . rw [decide_eq_true c, decide_eq_false (fun z => fin.mp z c)]; rfl
    . rw [decide_eq_false c, decide_eq_true (fin.mpr c)]; rfl
  subst eτ
  exact S.ret1 (s := .dat (.bool true)) E1.bl ⟨rfl, rfl⟩
theorem scLaw : FnScope ["_law_script", "_law_purse_here", "_law_stands_here", "_law_one", "_law_ways", "_law_other", "_law_best_here"] ["_law_script"] (defScope sLaw) := ⟨rfl, rfl, rfl, by decide +kernel, rfl, by decide +kernel, by decide +kernel⟩
theorem ok_law (F : Fun K "law" "law" sLaw f fd)
    (G : FnOk P w K mg base CX0 2 g gd ["_law_script"] (spPurse K)) (bG : Binds K gd ["_law_script"] []) (kG : PySem.W.keepIn K (.ref g) = true) (mG : mg "_law_purse" = some (.ref g))
    (G2 : FnOk P w K mg base CX0 4 g2 gd2 ["_law_purse_here", "_law_most"] (spU K RStandsT)) (bG2 : Binds K gd2 ["_law_purse_here", "_law_most"] []) (kG2 : PySem.W.keepIn K (.ref g2) = true) (mG2 : mg "_law_stands" = some (.ref g2))
    (G3 : FnOk P w K mg base CX0 5 g3 gd3 ["_law_stands_here", "_law_ways"] (spX K RLonger)) (bG3 : Binds K gd3 ["_law_stands_here", "_law_ways"] []) (kG3 : PySem.W.keepIn K (.ref g3) = true) (mG3 : mg "_law_longer" = some (.ref g3))
    (G4 : FnOk P w K mg base CX0 2 g4 gd4 ["_law_stands_here", "_law_ways", "_law_other"] (spP K RBest79)) (bG4 : Binds K gd4 ["_law_stands_here", "_law_ways", "_law_other"] []) (kG4 : PySem.W.keepIn K (.ref g4) = true) (mG4 : mg "_law_best" = some (.ref g4))
    (G5 : FnOk P w K mg base CX0 5 g5 gd5 ["stands", "one", "other"] (spX K RCalm)) (bG5 : Binds K gd5 ["stands", "one", "other"] []) (kG5 : PySem.W.keepIn K (.ref g5) = true) (mG5 : mg "calm" = some (.ref g5))
    (G6 : FnOk P w K mg base CX0 6 g6 gd6 ["_law_stands_here", "_law_one", "_law_other", "_law_best_here"] (spP K RLotsR)) (bG6 : Binds K gd6 ["_law_stands_here", "_law_one", "_law_other", "_law_best_here"] []) (kG6 : PySem.W.keepIn K (.ref g6) = true) (mG6 : mg "_law_lots_right" = some (.ref g6)) (m_range : mg "range" = none) (m_len : mg "len" = none) (m_list : mg "list" = none) :
    FnOk P w K mg base CX0 7 f fd ["_law_script"] (spLaw K) := by
  refine okL F scLaw rfl (fun cdv A0 outer s0 H0 E0 hr => ?_)
  have r := hr.mono (show 2 <= 6 by decide)
  have r2 := hr.mono (show 4 <= 6 by decide)
  have r3 := hr.mono (show 5 <= 6 by decide)
  have r4 := hr.mono (show 2 <= 6 by decide)
  have r5 := hr.mono (show 5 <= 6 by decide)
  have r6 := hr.mono (show 6 <= 6 by decide)
  refine ⟨_, (zss_cons (zs_set (i := 1) scLaw.nd rfl (Or.inl rfl) (ze_call G r rfl mG kG bG .nil pass0 (za_n (zv 0) za_nil)))
    (zss_cons (zs_set (i := 2) scLaw.nd rfl (Or.inl rfl) (ze_call G2 r2 rfl mG2 kG2 bG2 .nil pass0 (za_n (zv 1) (za_i za_nil))))
    (zss_cons (zs_for PassesOwn.never rfl (zi_range1 rfl m_range (za_c (ze_callB call_len_seq rfl m_len PySem.boot_len (za_n (zv 2) za_nil)) za_nil)) (zg_name (i := 3) scLaw.nd rfl (Or.inl rfl)) (zss_cons (zs_set (i := 4) scLaw.nd rfl (Or.inl rfl) (ze_call G3 r3 rfl mG3 kG3 bG3 .nil pass0 (za_n (zv 2) (za_l (ze_lst (za_t (ze_tup (za_l (ze_lst (za_n (zv 3) za_nil)) (za_t (ze_tup (za_i (za_i za_nil))) za_nil))) za_nil)) za_nil))))
    (zss_one (zs_for PassesOwn.never rfl (zi_range1 rfl m_range (za_c (ze_callB call_len_seq rfl m_len PySem.boot_len (za_n (zv 2) za_nil)) za_nil)) (zg_name (i := 5) scLaw.nd rfl (Or.inl rfl)) (zss_one (zs_if (zt_cmpR op_ne (zv 3) (zv 5) (nomark _)) (zss_cons (zs_set (i := 6) scLaw.nd rfl (Or.inl rfl) (ze_call G4 r4 rfl mG4 kG4 bG4 .nil pass0 (za_n (zv 2) (za_n (zv 4) (za_n (zv 5) za_nil)))))
    (zss_cons (zs_if (zt_cmpR (op_neD hr.units) (ze_ix ix_tup (ze_call G5 r5 rfl mG5 kG5 bG5 .nil pass0 (za_c (ze_callTy call_list_of rfl m_list (by rfl) (za_n (zv 2) za_nil)) (za_n (zv 3) (za_n (zv 5) za_nil)))) ze_int (fun _ _ => rfl)) (zv 6) (nomark _)) (zss_one (zs_ret ze_bl)) zss_nil)
    (zss_one (zs_if (ZW.pt (zw_and (zt_cmpR op_eq (ze_op op_mod (ze_op op_add (zv 3) (zv 5)) ze_int) ze_int (nomark _)) (zw_and1 (zt_not (zt_val (ze_call G6 r6 rfl mG6 kG6 bG6 .nil pass0 (za_c (ze_callTy call_list_of rfl m_list (by rfl) (za_n (zv 2) za_nil)) (za_n (zv 3) (za_n (zv 5) (za_n (zv 6) za_nil)))))))))) (zss_one (zs_ret ze_bl)) zss_nil)))) zss_nil))))))
    (zss_one (zs_ret ze_bl))))), fun sc hl hb => ?_⟩
  refine S.purse1 (ns := sc) (A1.cons (E1.var rfl) A1.nil) hl hb (fun q => ?_) (fun s h => ⟨_, h⟩)
  refine S.letC (E.callU (R := RStandsT) (ds := [.int 5]) (A1.cons (E1.varP rfl) (A1.cons E1.int A1.nil)) ⟨5, rfl, by decide, by decide, rfl⟩) (fun s ⟨_, e, _⟩ => by rw [e]; rfl) fun s ⟨_, es, fs, e2, l1, l2, st⟩ => ?_
  subst es e2
  have hn : fs.length <= 5 := by omega
  have st1 : Sts 1000 fs := fun f hf => (st f hf).up (by decide)
  have st2 : Sts 200 fs := fun f hf => (st f hf).up (by decide)
  refine S.noPu ?_
  refine S.seq (M := fun τ' => ∃ o3 o4 o5 o6 : Sl, flatDs [o3, o4, o5, o6] = true /\ τ' = [.dat (.list (sc.map .int)), .un, .dat (stD fs), o3, o4, o5, o6]) ?_ fun τ' ⟨o3, o4, o5, o6, _, eτ⟩ => ?_
  . refine S.for (Wk.rng (j := (fs.length : Int)) (n := fs.length) (A1.cons (E1.to (E1.lenL (A1.cons (E1.varL rfl) A1.nil)) (by rw [List.length_map])) A1.nil) (by omega) (by omega) (by omega)) (fun k τ' => ∃ o3 o4 o5 o6 : Sl, flatDs [o3, o4, o5, o6] = true /\ τ' = [.dat (.list (sc.map .int)), .un, .dat (stD fs), o3, o4, o5, o6]) ⟨_, _, _, _, rfl, rfl⟩ (fun one d τ1 hd ⟨o3, o4, o5, o6, fl, e1⟩ => ?_) (fun τ1 h => h)
    subst e1
    obtain ⟨h1, rfl⟩ := rangeD_get hd
    rw [Int.zero_add]
    refine ⟨_, Gd.name, ?_⟩
    have fl4 : flatD o4 = true /\ flatDs [o5, o6] = true := by
      have := (Bool.and_eq_true_iff.mp (show (flatD o3 && flatDs [o4, o5, o6]) = true from fl)).2
      exact Bool.and_eq_true_iff.mp this
    refine S.letX (R := RLonger) (ds := [stD fs, .list [wD ([one], 1)]]) (show (flatD o4 && flatDs [o5, o6]) = true by rw [fl4.1, fl4.2]; rfl) (A1.cons (E1.var rfl) (A1.cons (E1.to (s := .dat (.list [.tuple [.list [.int one], .tuple [.int 1, .int 1]]])) (s' := .dat (.list [wD ([one], 1)])) (E1.frz (E1.li (A1.cons (E1.tu (A1.cons (E1.frz (E1.li (A1.cons (E1.var rfl) A1.nil) rfl (lsz (n := 1) rfl z1))) (A1.cons (E1.tu (A1.cons E1.int (A1.cons E1.int A1.nil)) rfl (lsz (n := 2) rfl z2)) A1.nil)) rfl (lsz (n := 2) rfl z2)) A1.nil) rfl (lsz (n := 1) rfl z1))) rfl) A1.nil)) ⟨fs, one, rfl, st2, hn, h1, rfl⟩ (fun d ⟨ws, ed, snd, full⟩ => ?_)
    subst ed
    have wo : ∀ w ∈ ws, w.1 ≠ [] /\ QB8 w.2 := fun w hw => by
      obtain ⟨s, wy⟩ := snd w hw
      exact ⟨wy.ne, (wy.qb st1 h1).q8⟩
    refine S.for (Wk.rng (j := (fs.length : Int)) (n := fs.length) (A1.cons (E1.to (E1.lenL (A1.cons (E1.varL rfl) A1.nil)) (by rw [List.length_map])) A1.nil) (by omega) (by omega) (by omega)) (fun k τ' => ∃ o5 o6 : Sl, flatDs [o5, o6] = true /\ τ' = [.dat (.list (sc.map .int)), .un, .dat (stD fs), .dat (.int one), .dat (.list (ws.map wD)), o5, o6]) ⟨o5, o6, fl4.2, rfl⟩ (fun other d τ1 hd ⟨o5, o6, fl, e1⟩ => ?_) (fun τ1 ⟨o5, o6, fl, e1⟩ => ⟨.dat (.int one), .dat (.list (ws.map wD)), o5, o6, show (true && (true && flatDs [o5, o6])) = true by rw [fl]; rfl, e1⟩)
    subst e1
    obtain ⟨h2, rfl⟩ := rangeD_get hd
    rw [Int.zero_add]
    refine ⟨_, Gd.name, ?_⟩
    have fl6 : flatD o6 = true := by
      have := (Bool.and_eq_true_iff.mp (show (flatD o5 && flatDs [o6]) = true from fl)).2
      exact (Bool.and_eq_true_iff.mp this).1
    refine S.if1 (T1.test (E1.ne (E1.var rfl) (E1.var rfl))) (fun h => ?_) (fun h => S.next ⟨.dat (.int other), o6, show (true && (flatD o6 && true)) = true by rw [fl6]; rfl, rfl⟩)
    have ne : one ≠ other := fun z => by rw [z, decide_eq_true rfl] at h; cases h
    obtain ⟨ps, sp, cm⟩ := best_calm st1 h1 h2 ne snd full
    have b8 : QB8 (bestF ws other (-1)) := by
      rcases (best_inv other ws (-1)).2.2 with z | ⟨w, hw, _, z⟩
      . rw [z]; exact ⟨by unfold Bt; decide, by unfold Bt; decide⟩
      . rw [<- z]; exact (wo w hw).2
    refine S.let1 (s := .dat (tI (qf (bestF ws other (-1))))) (E1.call (R := RBest79) (ds := [stD fs, .list (ws.map wD), .int other]) (A1.cons (E1.var rfl) (A1.cons (E1.var rfl) (A1.cons (E1.var rfl) A1.nil))) ⟨fs, ws, other, rfl, wo, rfl⟩) ?_
    refine S.ifsF (T1.neDT (d := tI (qf (bestF ws other (-1)))) (E1.calm1 (gs := fs) (a := one) (b := other) (r := bestF ws other (-1)) (A1.cons (E1.frz (E1.listOf (A1.cons (E1.varL rfl) A1.nil))) (A1.cons (E1.var rfl) (A1.cons (E1.var rfl) A1.nil))) rfl st1 (by omega) h1 h2 (fun ps' r' sp' c' => cm.same c' h1 h2 rfl fun _ _ _ _ => rfl)) (E1.var rfl) rfl rfl (kqd_ints (qf (bestF ws other (-1))) 8)) ?_
    refine S.ifF (T.and (D := fun x => false = x) (T1.test (E1.eq (E1.mod (E1.add (E1.var rfl) (E1.var rfl)) E1.int (by decide)) E1.int)) (fun z => (T1.notT (T1.val (E1.call (R := RLotsR) (ds := [stD fs, .int one, .int other, tI (qf (bestF ws other (-1)))]) (A1.cons (E1.frz (E1.listOf (A1.cons (E1.varL rfl) A1.nil))) (A1.cons (E1.var rfl) (A1.cons (E1.var rfl) (A1.cons (E1.var rfl) A1.nil)))) ⟨fs, one, other, _, ps, sp, rfl, st2, hn, h1, h2, ne, b8, cm, rfl⟩)))) (fun _ => rfl)) (S.next ⟨_, _, rfl, rfl⟩)
  subst eτ
  exact S.ret1 (s := .dat (.bool true)) E1.bl rfl
theorem scSop : FnScope ["one", "other"] ["one", "other"] (defScope sSop) := ⟨rfl, rfl, rfl, by decide +kernel, rfl, by decide +kernel, by decide +kernel⟩
theorem ok_sop (F : Fun K "sum_of_products" "sum_of_products" sSop f fd) (ms : mg "sum" = none) (mz : mg "zip" = none) : FnOk P w K mg base CX0 1 f fd ["one", "other"] (spSop K) := by
  refine F.okZ scSop (fun vs H Q E h => ?_) (fun cdv A outer s H vs Q E hr h => ?_)
  . obtain ⟨a, b, ns, ms, rfl, _⟩ := h; rfl
  obtain ⟨a, b, ns, ms, rfl, hS, hT, hl, hl2, s1, s2, q⟩ := h
  refine ⟨_, zss_one (zs_ret (ze_callB (call_sumL rfl) rfl ‹_› (by rfl) (za_cons (ze_comp (own := ["left", "right"]) scSop rfl ⟨by decide +kernel, rfl, by decide +kernel, by decide +kernel, by decide +kernel, by decide +kernel, by decide +kernel, by decide +kernel, by decide +kernel⟩
      (zi_zip rfl mz (za_cons (zv 0) (za_cons (zv 1) za_nil)))
      (fun C fp s H nd => zg_pair rfl nd rfl rfl rfl rfl) (fun C fp s H => zts_nil) (fun C fp s H => ze_op op_mulB (zv 0) (zv 1))) za_nil))), ?_⟩
  refine ⟨_, rfl, _, rfl, a, b, rfl, ⟨_, hS⟩, ⟨_, hT⟩, ?_⟩
  refine comp_zip (K := K) ((List.zipWith (· * ·) ns ms).map PySem.W.Dat.int) hS hT (by simp [hl2]) (by simp [hl2]) (by rw [List.length_map]; exact Nat.le_of_lt (small1000 hl)) (fun i x y H' d hx hy hd hs => ?_) (fun σ' H2 Q1 Q2 hq h => ?_) (fun D H' ys hs hy hD hf => ?_)
  . rw [List.getElem?_map] at hx hy hd
    rw [List.getElem?_zipWith] at hd
    cases e : ns[i]? with
    | none => rw [e] at hx; cases hx
    | some n =>
      cases e2 : ms[i]? with
      | none => rw [e2] at hy; cases hy
      | some m =>
        rw [e] at hx hd
        rw [e2] at hy hd
        cases hx; cases hy; cases hd
        exact ⟨_, rfl, _, rfl, n, m, rfl, rfl, mulOk_of (pow_lift (s1 n (List.mem_of_getElem? e))) (pow_lift (s2 m (List.mem_of_getElem? e2))), Same.refl _, .int _⟩
  . obtain ⟨v1, e1, v2, e2, i, j, e3, e4, e5, q⟩ := h
    exact ⟨v1, e1, v2, e2, i, j, e3, e4, e5, hq _ _ q⟩
  . refine ⟨D, _, rfl, ?_, q _ hs⟩
    rw [Fzs.ints_inv hf] at hy
    exact SqL.of hy
theorem scCalm : FnScope ["stands", "one", "other", "inside", "ahead", "split", "least", "pair", "rest"] ["stands", "one", "other"] (defScope sCalm) := ⟨rfl, rfl, rfl, by decide +kernel, rfl, by decide +kernel, by decide +kernel⟩
theorem ok_calm (F : Fun K "calm" "calm" sCalm f fd)
    (G : FnOk P w K mg base CX0 4 g gd ["stands", "inside"] (spQ K RNearB)) (bG : Binds K gd ["stands", "inside"] []) (kG : PySem.W.keepIn K (.ref g) = true) (mG : mg "nearest_beyond" = some (.ref g))
    (G2 : FnOk P w K mg base CX0 3 g2 gd2 ["one", "other"] (spP K RBetw)) (bG2 : Binds K gd2 ["one", "other"] []) (kG2 : PySem.W.keepIn K (.ref g2) = true) (mG2 : mg "rest_between" = some (.ref g2))
    (G3 : FnOk P w K mg base CX0 1 g3 gd3 ["one", "other"] (spP K RLess)) (bG3 : Binds K gd3 ["one", "other"] []) (kG3 : PySem.W.keepIn K (.ref g3) = true) (mG3 : mg "is_less" = some (.ref g3))
    (G4 : FnOk P w K mg base CX0 2 g4 gd4 ["numbers"] (spT K (fun ns => (∃ n ∈ ns, n ≠ 0) /\ Sm ns) red)) (bG4 : Binds K gd4 ["numbers"] []) (kG4 : PySem.W.keepIn K (.ref g4) = true) (mG4 : mg "reduced" = some (.ref g4))
    (G5 : FnOk P w K mg base CX0 1 g5 gd5 ["ahead", "one", "other"] (spVw K RTr)) (bG5 : Binds K gd5 ["ahead", "one", "other"] []) (kG5 : PySem.W.keepIn K (.ref g5) = true) (mG5 : mg "traced" = some (.ref g5)) (m_list : mg "list" = none) :
    FnOk P w K mg base CX0 5 f fd ["stands", "one", "other"] (spX K RCalm) := by
  refine okX F scCalm (fun ds d h => ?_) (fun cdv A0 outer s0 H0 E0 hr => ?_)
  . obtain ⟨fs, one, other, rfl, _⟩ := h; rfl
  have r := hr.mono (show 4 <= 4 by decide)
  have r2 := hr.mono (show 3 <= 4 by decide)
  have r3 := hr.mono (show 1 <= 4 by decide)
  have r4 := hr.mono (show 2 <= 4 by decide)
  have r5 := hr.mono (show 1 <= 4 by decide)
  refine ⟨_, (zss_cons (zs_if (zt_cmpR op_eq (zv 1) (zv 2) (nomark _)) (zss_one (zs_ret (ze_tup (za_l (ze_lst (za_n (zv 1) za_nil)) (za_t (ze_tup (za_i (za_i za_nil))) (za_l (ze_lst za_nil) za_nil)))))) zss_nil)
    (zss_cons (zs_set (i := 3) scCalm.nd rfl (Or.inl rfl) (ze_lst (za_n (zv 1) za_nil)))
    (zss_cons (zs_set (i := 4) scCalm.nd rfl (Or.inl rfl) ze_dnewK)
    (zss_cons (zs_set (i := 5) scCalm.nd rfl (Or.inl rfl) (ze_lst za_nil))
    (zss_cons (zs_set (i := 6) scCalm.nd rfl (Or.inl rfl) (ze_tup (za_i (za_i za_nil))))
    (zss_cons (zs_while PassesOwn.never (zt_cmpR (op_notInD hr.units) (zv 2) (zv 3) (by with_unfolding_all rfl)) (zss_cons (zs_set (i := 7) scCalm.nd rfl (Or.inl rfl) (ze_call G r rfl mG kG bG .nil pass0 (za_n (zv 0) (za_n (zv 3) za_nil))))
    (zss_cons (zs_set (i := 8) scCalm.nd rfl (Or.inl rfl) (ze_call G2 r2 rfl mG2 kG2 bG2 .nil pass0 (za_s (ze_ix ix_list (zv 0) (ze_ix ix_tup (zv 7) ze_int (fun _ _ => rfl)) (fun _ _ => rfl)) (za_s (ze_ix ix_list (zv 0) (ze_ix ix_tup (zv 7) ze_int (fun _ _ => rfl)) (fun _ _ => rfl)) za_nil))))
    (zss_cons (zs_if (zt_val (ze_call G3 r3 rfl mG3 kG3 bG3 .nil pass0 (za_n (zv 8) (za_n (zv 6) za_nil)))) (zss_cons (zs_set (i := 6) scCalm.nd rfl (Or.inl rfl) (zv 8))
    (zss_one (zs_set (i := 5) scCalm.nd rfl (Or.inl rfl) (ze_callTy call_list_of rfl m_list (by rfl) (za_n (zv 3) za_nil))))) zss_nil)
    (zss_cons (zs_dput hr.units (zv 4) (ze_ix ix_tup (zv 7) ze_int (fun _ _ => rfl)) (ze_ix ix_tup (zv 7) ze_int (fun _ _ => rfl)))
    (zss_one (zs_expr (ze_append (zv 3) (ze_ix ix_tup (zv 7) ze_int (fun _ _ => rfl))))))))))
    (zss_one (zs_ret (ze_tup (za_c (ze_call G5 r5 rfl mG5 kG5 bG5 .nil pass0 (za_n (zv 4) (za_n (zv 1) (za_n (zv 2) za_nil)))) (za_c (ze_call G4 r4 rfl mG4 kG4 bG4 .nil pass0 (za_n (zv 6) za_nil)) (za_n (zv 5) za_nil)))))))))))), fun ds C h => ?_⟩
  obtain ⟨fs, one, other, rfl, st, hn, h1, h2, rfl⟩ := h
  refine S.ifs (T1.test (E1.eq (E1.var rfl) (E1.var rfl))) (fun h => ?_) (fun h => ?_)
  . have e : one = other := by have := of_decide_eq_true h; omega
    exact S.ret1 (s := .dat (.tuple [iD (nI [one]), tI [1, 1], iD (nI [])])) (E1.tu (A1.cons (E1.frz (E1.li (A1.cons (E1.var rfl) A1.nil) rfl (lsz (n := 1) rfl z1))) (A1.cons (E1.tu (A1.cons E1.int (A1.cons E1.int A1.nil)) rfl (lsz (n := 2) rfl z2)) (A1.cons (E1.frz (E1.li A1.nil rfl (lsz (n := 0) rfl z0))) A1.nil))) rfl (lsz (n := 3) rfl z3)) ⟨_, ⟨[one], 1, [], rfl, ⟨by unfold Bt; decide, by unfold Bt; decide⟩, .inl ⟨e, rfl, rfl, rfl⟩⟩, rfl⟩
  have ne : one ≠ other := fun z => by have := of_decide_eq_false h; exact this (by rw [z])
  refine S.letO (ds := (nI [one]).map .int) (E1.li (A1.cons (E1.var rfl) A1.nil) rfl (lsz (n := 1) rfl z1)) (noLs_ints _) ?_
  refine S.letDK ?_
  refine S.letO (ds := (nI []).map .int) (E1.li A1.nil rfl (lsz (n := 0) rfl z0)) (noLs_ints _) ?_
  refine S.let1 (s := .dat (tI [2, 1])) (E1.tu (A1.cons E1.int (A1.cons E1.int A1.nil)) rfl (lsz (n := 2) rfl z2)) ?_
  refine S.seq (M := fun τ' => ∃ (ins : List Nat) (kd : List (List Int × Dat)) (sp : List Nat) (t b : Int) (q : Rat) (o7 o8 : Sl), Grow fs one other kd ins sp q /\ Pr q t b /\ other ∈ ins /\ τ' = [.dat (stD fs), .dat (.int one), .dat (.int other), .own ((nI ins).map .int), .dt (dtO ⟨false, kd⟩), .own ((nI sp).map .int), .dat (tI [t, b]), o7, o8]) ?_ fun τ' ⟨ins, kd, sp, t, b, q, o7, o8, gr, pr, oi, eτ⟩ => ?_
  . refine S.while (fun m τ' => ∃ (ins : List Nat) (kd : List (List Int × Dat)) (sp : List Nat) (t b : Int) (q : Rat) (o7 o8 : Sl), Grow fs one other kd ins sp q /\ Pr q t b /\ m = fs.length - ins.length /\ τ' = [.dat (stD fs), .dat (.int one), .dat (.int other), .own ((nI ins).map .int), .dt (dtO ⟨false, kd⟩), .own ((nI sp).map .int), .dat (tI [t, b]), o7, o8]) (m0 := fs.length - [one].length) ⟨[one], [], [], 2, 1, 2, _, _, Grow.start h1, ⟨by decide, by unfold Bt; decide, by unfold Bt; decide, by unfold qv; decide +kernel⟩, rfl, rfl⟩ (fun m τ1 ⟨ins, kd, sp, t, b, q, o7, o8, gr, pr, em, e1⟩ => ?_)
    subst e1
    refine ⟨_, T1.test (E1.notInD (E1.var rfl) (E1.varO rfl) rfl rfl rfl kq8_ints (mem_ints rfl)), fun c => ?_, fun c => ?_⟩
    . have no : other ∉ ins := fun z => by
        have c' : decide ((other : Int) ∈ nI ins) = false := by simpa using c
        exact of_decide_eq_false c' (mem_nI.mpr z)
      have small := gr.iz.small h2 no
      have ine : ins ≠ [] := fun z => by have := gr.tr.hd; rw [z] at this; cases this
      have bne : bey fs.length (nI ins) ≠ [] := fun z => by
        have := mem_bey.mpr ⟨h2, fun z => no (mem_nI.mp z)⟩
        rw [z] at this; cases this
      refine S.letC (E.callQ (R := RNearB) (ds := [stD fs, iD (nI ins)]) (A1.cons (E1.var rfl) (A1.cons (E1.varO rfl) A1.nil)) ⟨fs, ins, rfl, st, hn, gr.iz, ine, bne, rfl⟩) (fun s ⟨_, e, _⟩ => by rw [e]; rfl) fun s ⟨_, es, i, j, e2, out⟩ => ?_
      subst es e2
      have i1 := gr.iz.lt i out.1
      have j1 := out.2.1
      obtain ⟨f, hf⟩ : ∃ f, fs[i]? = some f := ⟨_, List.getElem?_eq_getElem i1⟩
      obtain ⟨g, hg⟩ : ∃ g, fs[j]? = some g := ⟨_, List.getElem?_eq_getElem j1⟩
      have f1 := st f (List.mem_of_getElem? hf)
      have f2 := st g (List.mem_of_getElem? hg)
      have pb := pr_betw st hf hg
      refine S.let1 (s := .dat (tI [sop f g * sop f g, nrm f * nrm g])) (E1.call (R := RBetw) (ds := [tI f, tI g]) (A1.cons (E1.ixL (E1.varL rfl) (E1.ixT (E1.var rfl) E1.int rfl) (atI_nat (st_at hf))) (A1.cons (E1.ixL (E1.varL rfl) (E1.ixT (E1.var rfl) E1.int rfl) (atI_nat (st_at hg))) A1.nil)) ⟨_, _, rfl, f1, f2, rfl⟩) ?_
      generalize sop f g * sop f g = t1 at pb ⊢
      generalize nrm f * nrm g = b1 at pb ⊢
      have le1 : rho fs i j < 2 := Rat.not_le.mp fun h => absurd (Rat.le_trans h (rho_le1 st i1 j1)) (by decide)
      refine S.seq (M := fun τ' => ∃ (sp' : List Nat) (t' b' : Int) (q' : Rat), ((rho fs i j < q /\ q' = rho fs i j /\ sp' = ins) \/ (¬ rho fs i j < q /\ q' = q /\ sp' = sp)) /\ Pr q' t' b' /\ τ' = [.dat (stD fs), .dat (.int one), .dat (.int other), .own ((nI ins).map .int), .dt (dtO ⟨false, kd⟩), .own ((nI sp').map .int), .dat (tI [t', b']), .dat (tI [(i : Int), (j : Int)]), .dat (tI [t1, b1])]) ?_ fun τ' ⟨sp', t', b', q', hc, pq, eτ⟩ => ?_
      . refine S.if1 (T1.val (E1.call (R := RLess) (ds := [tI [t1, b1], tI [t, b]]) (d := .bool (decide (rho fs i j < q))) (A1.cons (E1.var rfl) (A1.cons (E1.var rfl) A1.nil)) ⟨_, _, _, _, rfl, pb.1, pr.1, pb.2.1.up (by decide), pb.2.2.1.up (by decide), pr.2.1.up (by decide), pr.2.2.1.up (by decide), by rw [pb.2.2.2, pr.2.2.2]⟩)) (fun h => ?_) (fun h => S.next ⟨sp, t, b, q, .inr ⟨of_decide_eq_false h, rfl, rfl⟩, pr, rfl⟩)
        refine S.let1 (s := .dat (tI [t1, b1])) (E1.var rfl) ?_
        exact S.asgO (ds := (nI ins).map .int) (E1.listOf (A1.cons (E1.varO rfl) A1.nil)) (noLs_ints _) ⟨ins, t1, b1, _, .inl ⟨of_decide_eq_true h, rfl, rfl⟩, pb, rfl⟩
      subst eτ
      have gl : kd.length < sizeLine := by
        have := gr.len
        exact Nat.lt_of_lt_of_le (show kd.length < 1001 by omega) (by decide)
      refine S.seq (M := fun x => x = [.dat (stD fs), .dat (.int one), .dat (.int other), .own ((nI ins).map .int), .dt (dtO ⟨false, putD kd [(j : Int)] (.int i)⟩), .own ((nI sp').map .int), .dat (tI [t', b']), .dat (tI [(i : Int), (j : Int)]), .dat (tI [t1, b1])]) (S.putDK rfl (E1.ixT (E1.var rfl) E1.int rfl) (E1.ixT (E1.var rfl) E1.int rfl) gl gr.sg rfl) fun x ex => ?_
      subst ex
      have hz : ((nI ins).map Dat.int).length < sizeLine := by
        rw [List.length_map, len_nI]
        exact Nat.lt_of_lt_of_le (show ins.length < 1001 by omega) (by decide)
      refine S.append1 rfl (E1.ixT (E1.var rfl) E1.int rfl) rfl hz ⟨fs.length - (ins ++ [j]).length, by rw [List.length_append, List.length_singleton, em]; omega, ins ++ [j], _, sp', t', b', q', .dat (tI [(i : Int), (j : Int)]), .dat (tI [t1, b1]), gr.step out no hc le1, pq, rfl, ?_⟩
      rw [nI_app, List.map_append]; rfl
    . have oi : other ∈ ins := by
        have c' : decide ((other : Int) ∈ nI ins) = true := by simpa using c
        exact mem_nI.mp (of_decide_eq_true c')
      exact ⟨ins, kd, sp, t, b, q, o7, o8, gr, pr, oi, rfl⟩
  subst eτ
  refine S.frz (i := 5) rfl ?_
  have er : red [t, b] = qf q := by rw [<- pr.2.2.2, <- fr_qf pr.1]; rfl
  have rl := red_le (m := 2 ^ 4010) (ns := [t, b]) (fun k hk => by
    simp only [List.mem_cons, List.mem_nil_iff, or_false] at hk
    rcases hk with rfl | rfl
    . exact pr.2.1
    . exact pr.2.2.1)
  rw [er] at rl
  have qb : QB q := ⟨rl _ (List.mem_cons_self), rl _ (List.mem_cons_of_mem _ (List.mem_cons_self))⟩
  have il : ins.length <= 1000 := Nat.le_trans (nodup_le fs.length ins gr.iz.nd gr.iz.lt) hn
  refine S.ret (E.tu3 (E.callVw (R := RTr) (ds := [.int one, .int other]) (i := 4) (o := dtO ⟨false, kd⟩) rfl isDC_own (A1.cons (E1.var rfl) (A1.cons (E1.var rfl) A1.nil)) ⟨kd, ins, one, other, rfl, rfl, gr.tr, oi, il, rfl⟩) (E1.to (E1.cT (fn := red) (ns := [t, b]) (A1.cons (E1.var rfl) A1.nil) (by show 2 <= 1000; decide) ⟨⟨b, by simp, by have := pr.1; omega⟩, sm2 (x := 4010) pr.2.1 pr.2.2.1⟩) (by rw [er])) (E1.var rfl)) ?_
  rintro s ⟨d, rfl, d1, ⟨ps, rfl, g1, g2, g3, g4, g5⟩, rfl⟩
  exact ⟨_, ⟨ps, q, sp, rfl, qb, gr.calm ne oi g1 g2 g3 g4 g5⟩, rfl⟩
theorem scTraced : FnScope ["ahead", "one", "other", "places"] ["ahead", "one", "other"] (defScope sTraced) := ⟨rfl, rfl, rfl, by decide +kernel, rfl, by decide +kernel, by decide +kernel⟩
theorem ok_traced (F : Fun K "traced" "traced" sTraced f fd) (m_list : mg "list" = none) (m_reversed : mg "reversed" = none) :
    FnOk P w K mg base CX0 1 f fd ["ahead", "one", "other"] (spVw K RTr) := by
  refine okVw F scTraced (fun dc ds d h => ?_) (fun cdv A0 outer s0 H0 E0 hr => ?_)
  . obtain ⟨kd, ins, one, other, rfl, rfl, _⟩ := h; rfl
  refine ⟨_, (zss_cons (zs_set (i := 3) scTraced.nd rfl (Or.inl rfl) (ze_lst (za_n (zv 2) za_nil)))
    (zss_cons (zs_while PassesOwn.never (zt_cmpR op_ne (ze_ix ix_list (zv 3) (ze_un un_neg ze_int) (fun _ _ => rfl)) (zv 1) (nomark _)) (zss_one (zs_expr (ze_append (zv 3) (ze_dget hr.units (zv 0) (ze_ix ix_list (zv 3) (ze_un un_neg ze_int) (fun _ _ => rfl)) (fun _ _ => rfl))))))
    (zss_one (zs_ret (ze_listrev rfl rfl m_list rfl m_reversed (za_n (zv 3) za_nil)))))), fun dc ds C h => ?_⟩
  obtain ⟨kd, ins, one, other, rfl, rfl, tr, ho, hl, rfl⟩ := h
  obtain ⟨m0, hm0, em0⟩ := List.getElem_of_mem ho
  have em : ins[m0]? = some other := by rw [List.getElem?_eq_getElem hm0, em0]
  refine S.letO (ds := (nI [other]).map .int) (E1.li (A1.cons (E1.var rfl) A1.nil) rfl (lsz (n := 1) rfl z1)) (noLs_ints _) ?_
  refine S.seq (M := fun τ' => ∃ (pl : List Nat) (m : Nat), Bk kd ins other m pl /\ pl.getLast? = some one /\ τ' = [.dt (vwO ⟨false, kd⟩), .dat (.int one), .dat (.int other), .own ((nI pl).map .int)]) ?_ fun τ' ⟨pl, m, bk, la, eτ⟩ => ?_
  . refine S.while (fun m τ' => ∃ pl : List Nat, Bk kd ins other m pl /\ τ' = [.dt (vwO ⟨false, kd⟩), .dat (.int one), .dat (.int other), .own ((nI pl).map .int)]) (m0 := m0) ⟨[other], Bk.start em, rfl⟩ (fun m τ1 ⟨pl, bk, e1⟩ => ?_)
    subst e1
    obtain ⟨x, hx, ex⟩ := bk.at_
    have lx : ((nI pl).map Dat.int).getLast? = some (.int x) := by unfold nI; rw [List.map_map, List.getLast?_map, hx]; rfl
    refine ⟨_, T1.test (E1.ne (E1.ixL (E1.varO rfl) (E1.neg E1.int) (atI_last lx)) (E1.var rfl)), fun c => ?_, fun c => ?_⟩
    . have ne : x ≠ one := fun z => by rw [z] at c; simp at c
      obtain ⟨m', y, lt, lk, bk'⟩ := bk.step tr hx ne
      have hz : ((nI pl).map Dat.int).length < sizeLine := by
        rw [List.length_map, len_nI]
        have := nodup_of_sub bk.nd fun z hz => (let ⟨k, _, e⟩ := bk.al z hz; List.mem_of_getElem? e)
        exact Nat.lt_of_le_of_lt (Nat.le_trans this hl) (by decide)
      refine S.append1 rfl (E1.getDK (o := vwO ⟨false, kd⟩) rfl isDC_vw (E1.ixL (E1.varO rfl) (E1.neg E1.int) (atI_last lx)) lk) rfl hz ⟨m', lt, pl ++ [y], bk', ?_⟩
      rw [nI_app, List.map_append]; rfl
    . have eq : x = one := by
        have : decide ((x : Int) = one) = true := by simpa using c
        have := of_decide_eq_true this
        omega
      exact ⟨pl, m, bk, by rw [hx, eq], rfl⟩
  subst eτ
  obtain ⟨h1, h2, h3, h4, h5⟩ := bk.done la
  refine S.ret1 (s := .own ((nI pl.reverse).map .int)) (E1.to (E1.listRev (A1.cons (E1.varO rfl) A1.nil)) (by rw [<- List.map_reverse, nI_rev])) ⟨_, ⟨pl.reverse, rfl, h1, h2, h3, h4, h5⟩, rfl, noLs_ints _⟩
end
end K79
end
section
namespace K79
open PySem L2 Num K0 D
open PySem.W (Dat)
theorem us1 {P : List Value -> Prop} (h : ∀ a, P [a]) : ∀ (us : List Value), us.length = 1 -> P us := fun us l => by
  cases us with
  | nil => cases l
  | cons x0 us =>
  cases us with
  | cons _ _ => simp at l
  | nil => exact h x0
theorem us2 {P : List Value -> Prop} (h : ∀ a b, P [a, b]) : ∀ (us : List Value), us.length = 2 -> P us := fun us l => by
  cases us with
  | nil => cases l
  | cons x0 us =>
  cases us with
  | nil => cases l
  | cons x1 us =>
  cases us with
  | cons _ _ => simp at l
  | nil => exact h x0 x1
theorem us3 {P : List Value -> Prop} (h : ∀ a b c, P [a, b, c]) : ∀ (us : List Value), us.length = 3 -> P us := fun us l => by
  cases us with
  | nil => cases l
  | cons x0 us =>
  cases us with
  | nil => cases l
  | cons x1 us =>
  cases us with
  | nil => cases l
  | cons x2 us =>
  cases us with
  | cons _ _ => simp at l
  | nil => exact h x0 x1 x2
theorem us4 {P : List Value -> Prop} (h : ∀ a b c d, P [a, b, c, d]) : ∀ (us : List Value), us.length = 4 -> P us := fun us l => by
  cases us with
  | nil => cases l
  | cons x0 us =>
  cases us with
  | nil => cases l
  | cons x1 us =>
  cases us with
  | nil => cases l
  | cons x2 us =>
  cases us with
  | nil => cases l
  | cons x3 us =>
  cases us with
  | cons _ _ => simp at l
  | nil => exact h x0 x1 x2 x3
theorem all_mk {l : PySem.W.OpenLaw} {w : World} {K : PySem.W.Frag} {h : Heap} {mg : Str -> Option Value} {fa : Addr} (X : K.In h) (G : h.Ns mainGlobals mg) (hfa : mg "law" = some (.ref fa))
    (d1 : DefAt K "common_divisor" sCD) (d2 : DefAt K "reduced" sRed) (d4 : DefAt K "is_less" sIsLess) (d6 : DefAt K "size" sSize) (d8 : DefAt K "rest_between" sRestBetw) (d9 : DefAt K "step" sStep) (d10 : DefAt K "places_beyond" sBeyP) (d11 : DefAt K "nearest_beyond" sNearB) (d14 : DefAt K "lot_of" sLotOf) (d15 : DefAt K "lots" sLots) (d17 : DefAt K "_law_mixed" sMixed4) (d18 : DefAt K "_law_purse" sPurse4) (d19 : DefAt K "_law_draw" sDraw) (d20 : DefAt K "_law_number" sNumber4) (d21 : DefAt K "_law_row" sRow4) (d22 : DefAt K "_law_divisor" sDiv) (d23 : DefAt K "_law_plain" sLPlain5) (d24 : DefAt K "_law_then" sThen4) (d25 : DefAt K "_law_back" sBack4) (d26 : DefAt K "_law_lowest" sLowest4) (d27 : DefAt K "_law_rest" sRest4) (d28 : DefAt K "_law_step" sStepQ) (d29 : DefAt K "_law_less" sLLess) (d30 : DefAt K "_law_stands" sStandsT) (d31 : DefAt K "_law_best" sBest) (d32 : DefAt K "_law_longer" sLonger) (d33 : DefAt K "_law_lots_right" sLotsR) (d34 : DefAt K "law" sLaw) (d3 : DefAt K "sum_of_products" sSop) (d12 : DefAt K "calm" sCalm) (d13 : DefAt K "traced" sTraced)
     (z_abs : PySem.W.nsIn K mainGlobals "abs" = some none) (z_tuple : PySem.W.nsIn K mainGlobals "tuple" = some none) (z_range : PySem.W.nsIn K mainGlobals "range" = some none) (z_len : PySem.W.nsIn K mainGlobals "len" = some none) (z_sorted : PySem.W.nsIn K mainGlobals "sorted" = some none) (z_any : PySem.W.nsIn K mainGlobals "any" = some none) (z_sum : PySem.W.nsIn K mainGlobals "sum" = some none) (z_list : PySem.W.nsIn K mainGlobals "list" = some none) (z_int : PySem.W.nsIn K mainGlobals "int" = some none) (z_zip : PySem.W.nsIn K mainGlobals "zip" = some none) (z_reversed : PySem.W.nsIn K mainGlobals "reversed" = some none) :
    ∃ fd : FuncData, (∀ (s : Shared) (v : Value), BindsTo s fd ⟨[v], []⟩ [("_law_script", v)]) /\ ∀ base : Heap, K.In base -> base.Ns mainGlobals mg -> FnOk l.prog w K mg base CX0 7 fa fd ["_law_script"] (spLaw K) := by
  obtain ⟨f1, fd1, F1, m1, k1⟩ := d1.get X G
  have b1 := F1.binds (ps := ["numbers"]) (by refine fun _ _ _ _ _ _ => us1 ?_; intros; rfl)
  obtain ⟨f2, fd2, F2, m2, k2⟩ := d2.get X G
  have b2 := F2.binds (ps := ["numbers"]) (by refine fun _ _ _ _ _ _ => us1 ?_; intros; rfl)
  obtain ⟨f4, fd4, F4, m4, k4⟩ := d4.get X G
  have b4 := F4.binds (ps := ["one", "other"]) (by refine fun _ _ _ _ _ _ => us2 ?_; intros; rfl)
  obtain ⟨f6, fd6, F6, m6, k6⟩ := d6.get X G
  have b6 := F6.binds (ps := ["four"]) (by refine fun _ _ _ _ _ _ => us1 ?_; intros; rfl)
  obtain ⟨f8, fd8, F8, m8, k8⟩ := d8.get X G
  have b8 := F8.binds (ps := ["one", "other"]) (by refine fun _ _ _ _ _ _ => us2 ?_; intros; rfl)
  obtain ⟨f9, fd9, F9, m9, k9⟩ := d9.get X G
  have b9 := F9.binds (ps := ["stands", "one", "other"]) (by refine fun _ _ _ _ _ _ => us3 ?_; intros; rfl)
  obtain ⟨f10, fd10, F10, m10, k10⟩ := d10.get X G
  have b10 := F10.binds (ps := ["stands", "inside"]) (by refine fun _ _ _ _ _ _ => us2 ?_; intros; rfl)
  obtain ⟨f11, fd11, F11, m11, k11⟩ := d11.get X G
  have b11 := F11.binds (ps := ["stands", "inside"]) (by refine fun _ _ _ _ _ _ => us2 ?_; intros; rfl)
  obtain ⟨f14, fd14, F14, m14, k14⟩ := d14.get X G
  have b14 := F14.binds (ps := ["stands", "first", "rest"]) (by refine fun _ _ _ _ _ _ => us3 ?_; intros; rfl)
  obtain ⟨f15, fd15, F15, m15, k15⟩ := d15.get X G
  have b15 := F15.binds (ps := ["stands", "rest"]) (by refine fun _ _ _ _ _ _ => us2 ?_; intros; rfl)
  obtain ⟨f17, fd17, F17, m17, k17⟩ := d17.get X G
  have b17 := F17.binds (ps := ["_law_cell", "_law_k"]) (by refine fun _ _ _ _ _ _ => us2 ?_; intros; rfl)
  obtain ⟨f18, fd18, F18, m18, k18⟩ := d18.get X G
  have b18 := F18.binds (ps := ["_law_script"]) (by refine fun _ _ _ _ _ _ => us1 ?_; intros; rfl)
  obtain ⟨f19, fd19, F19, m19, k19⟩ := d19.get X G
  have b19 := F19.binds (ps := ["_law_purse_here", "_law_out_of"]) (by refine fun _ _ _ _ _ _ => us2 ?_; intros; rfl)
  obtain ⟨f20, fd20, F20, m20, k20⟩ := d20.get X G
  have b20 := F20.binds (ps := ["_law_purse_here"]) (by refine fun _ _ _ _ _ _ => us1 ?_; intros; rfl)
  obtain ⟨f21, fd21, F21, m21, k21⟩ := d21.get X G
  have b21 := F21.binds (ps := ["_law_purse_here", "_law_many"]) (by refine fun _ _ _ _ _ _ => us2 ?_; intros; rfl)
  obtain ⟨f22, fd22, F22, m22, k22⟩ := d22.get X G
  have b22 := F22.binds (ps := ["_law_one", "_law_other"]) (by refine fun _ _ _ _ _ _ => us2 ?_; intros; rfl)
  obtain ⟨f23, fd23, F23, m23, k23⟩ := d23.get X G
  have b23 := F23.binds (ps := ["_law_four"]) (by refine fun _ _ _ _ _ _ => us1 ?_; intros; rfl)
  obtain ⟨f24, fd24, F24, m24, k24⟩ := d24.get X G
  have b24 := F24.binds (ps := ["_law_one", "_law_other"]) (by refine fun _ _ _ _ _ _ => us2 ?_; intros; rfl)
  obtain ⟨f25, fd25, F25, m25, k25⟩ := d25.get X G
  have b25 := F25.binds (ps := ["_law_four"]) (by refine fun _ _ _ _ _ _ => us1 ?_; intros; rfl)
  obtain ⟨f26, fd26, F26, m26, k26⟩ := d26.get X G
  have b26 := F26.binds (ps := ["_law_top", "_law_bottom"]) (by refine fun _ _ _ _ _ _ => us2 ?_; intros; rfl)
  obtain ⟨f27, fd27, F27, m27, k27⟩ := d27.get X G
  have b27 := F27.binds (ps := ["_law_four"]) (by refine fun _ _ _ _ _ _ => us1 ?_; intros; rfl)
  obtain ⟨f28, fd28, F28, m28, k28⟩ := d28.get X G
  have b28 := F28.binds (ps := ["_law_stands_here", "_law_one", "_law_other"]) (by refine fun _ _ _ _ _ _ => us3 ?_; intros; rfl)
  obtain ⟨f29, fd29, F29, m29, k29⟩ := d29.get X G
  have b29 := F29.binds (ps := ["_law_one", "_law_other"]) (by refine fun _ _ _ _ _ _ => us2 ?_; intros; rfl)
  obtain ⟨f30, fd30, F30, m30, k30⟩ := d30.get X G
  have b30 := F30.binds (ps := ["_law_purse_here", "_law_most"]) (by refine fun _ _ _ _ _ _ => us2 ?_; intros; rfl)
  obtain ⟨f31, fd31, F31, m31, k31⟩ := d31.get X G
  have b31 := F31.binds (ps := ["_law_stands_here", "_law_ways", "_law_other"]) (by refine fun _ _ _ _ _ _ => us3 ?_; intros; rfl)
  obtain ⟨f32, fd32, F32, m32, k32⟩ := d32.get X G
  have b32 := F32.binds (ps := ["_law_stands_here", "_law_ways"]) (by refine fun _ _ _ _ _ _ => us2 ?_; intros; rfl)
  obtain ⟨f33, fd33, F33, m33, k33⟩ := d33.get X G
  have b33 := F33.binds (ps := ["_law_stands_here", "_law_one", "_law_other", "_law_best_here"]) (by refine fun _ _ _ _ _ _ => us4 ?_; intros; rfl)
  obtain ⟨fd34, F34, b34⟩ := d34.law (y := "_law_script") X G hfa fun _ _ _ _ _ _ _ => rfl
  obtain ⟨f3, fd3, F3, m3, k3⟩ := d3.get X G
  have b3 := F3.binds (ps := ["one", "other"]) (by refine fun _ _ _ _ _ _ => us2 ?_; intros; rfl)
  obtain ⟨f12, fd12, F12, m12, k12⟩ := d12.get X G
  have b12 := F12.binds (ps := ["stands", "one", "other"]) (by refine fun _ _ _ _ _ _ => us3 ?_; intros; rfl)
  obtain ⟨f13, fd13, F13, m13, k13⟩ := d13.get X G
  have b13 := F13.binds (ps := ["ahead", "one", "other"]) (by refine fun _ _ _ _ _ _ => us3 ?_; intros; rfl)
  have m_abs := PySem.W.mg_none_of X G z_abs
  have m_tuple := PySem.W.mg_none_of X G z_tuple
  have m_range := PySem.W.mg_none_of X G z_range
  have m_len := PySem.W.mg_none_of X G z_len
  have m_sorted := PySem.W.mg_none_of X G z_sorted
  have m_any := PySem.W.mg_none_of X G z_any
  have m_sum := PySem.W.mg_none_of X G z_sum
  have m_list := PySem.W.mg_none_of X G z_list
  have m_int := PySem.W.mg_none_of X G z_int
  have m_zip := PySem.W.mg_none_of X G z_zip
  have m_reversed := PySem.W.mg_none_of X G z_reversed
  refine ⟨fd34, b34, fun base _ _ => ?_⟩
  have o1_CD := ok_cd (P := l.prog) (w := w) (mg := mg) (base := base) F1  m_abs 
  have o2_Red := ok_red (P := l.prog) (w := w) (mg := mg) (base := base) F2 o1_CD b1 k1 m1 m_tuple 
  have o4_IsLess := ok_isless (P := l.prog) (w := w) (mg := mg) (base := base) F4   
  have o10_BeyP := ok_beyp (P := l.prog) (w := w) (mg := mg) (base := base) F10  m_range m_len 
  have o17_Mixed4 := ok_mixed4 (P := l.prog) (w := w) (mg := mg) (base := base) F17   
  have o18_Purse4 := ok_purse4 (P := l.prog) (w := w) (mg := mg) (base := base) F18 o17_Mixed4 b17 k17 m17 m_range m_len 
  have o19_Draw := ok_draw (P := l.prog) (w := w) (mg := mg) (base := base) F19   
  have o20_Number4 := ok_number4 (P := l.prog) (w := w) (mg := mg) (base := base) F20 o19_Draw b19 k19 m19  
  have o21_Row4 := ok_row4 (P := l.prog) (w := w) (mg := mg) (base := base) F21 o20_Number4 b20 k20 m20 m_tuple m_range 
  have o22_Div := ok_div (P := l.prog) (w := w) (mg := mg) (base := base) F22  m_abs 
  have o23_LPlain5 := ok_lplain5 (P := l.prog) (w := w) (mg := mg) (base := base) F23 o22_Div b22 k22 m22 m_tuple 
  have o24_Then4 := ok_then4 (P := l.prog) (w := w) (mg := mg) (base := base) F24 o23_LPlain5 b23 k23 m23  
  have o25_Back4 := ok_back4 (P := l.prog) (w := w) (mg := mg) (base := base) F25 o23_LPlain5 b23 k23 m23  
  have o26_Lowest4 := ok_lowest4 (P := l.prog) (w := w) (mg := mg) (base := base) F26 o22_Div b22 k22 m22  
  have o27_Rest4 := ok_rest4 (P := l.prog) (w := w) (mg := mg) (base := base) F27 o26_Lowest4 b26 k26 m26 m_sum 
  have o28_StepQ := ok_stepq (P := l.prog) (w := w) (mg := mg) (base := base) F28 o27_Rest4 b27 k27 m27 o24_Then4 b24 k24 m24 o25_Back4 b25 k25 m25  
  have o29_LLess := ok_lless (P := l.prog) (w := w) (mg := mg) (base := base) F29   
  have o30_StandsT := ok_standst (P := l.prog) (w := w) (mg := mg) (base := base) F30 o19_Draw b19 k19 m19 o21_Row4 b21 k21 m21 m_range m_len m_tuple 
  have o31_Best := ok_best (P := l.prog) (w := w) (mg := mg) (base := base) F31 o29_LLess b29 k29 m29  
  have o32_Longer := ok_longer (P := l.prog) (w := w) (mg := mg) (base := base) F32 o28_StepQ b28 k28 m28 o29_LLess b29 k29 m29 m_list m_range m_len m_int 
  have o3_Sop := ok_sop (P := l.prog) (w := w) (mg := mg) (base := base) F3  m_sum m_zip 
  have o6_Size := ok_size (P := l.prog) (w := w) (mg := mg) (base := base) F6 o3_Sop b3 k3 m3  
  have o8_RestBetw := ok_restbetw (P := l.prog) (w := w) (mg := mg) (base := base) F8 o3_Sop b3 k3 m3 o6_Size b6 k6 m6  
  have o9_Step := ok_step (P := l.prog) (w := w) (mg := mg) (base := base) F9 o2_Red b2 k2 m2 o8_RestBetw b8 k8 m8  
  have o11_NearB := ok_nearb (P := l.prog) (w := w) (mg := mg) (base := base) F11 o10_BeyP b10 k10 m10 o8_RestBetw b8 k8 m8 o4_IsLess b4 k4 m4  
  have o14_LotOf := ok_lotof (P := l.prog) (w := w) (mg := mg) (base := base) F14 o10_BeyP b10 k10 m10 o4_IsLess b4 k4 m4 o8_RestBetw b8 k8 m8 m_len m_sorted 
  have o15_Lots := ok_lots (P := l.prog) (w := w) (mg := mg) (base := base) F15 o14_LotOf b14 k14 m14 m_range m_len m_any 
  have o33_LotsR := ok_lotsr (P := l.prog) (w := w) (mg := mg) (base := base) F33 o9_Step b9 k9 m9 o15_Lots b15 k15 m15 o29_LLess b29 k29 m29 m_range m_len 
  have o13_Traced := ok_traced (P := l.prog) (w := w) (mg := mg) (base := base) F13  m_list m_reversed 
  have o12_Calm := ok_calm (P := l.prog) (w := w) (mg := mg) (base := base) F12 o11_NearB b11 k11 m11 o8_RestBetw b8 k8 m8 o4_IsLess b4 k4 m4 o2_Red b2 k2 m2 o13_Traced b13 k13 m13 m_list 
  exact ok_law (P := l.prog) (w := w) (mg := mg) (base := base) F34 o18_Purse4 b18 k18 m18 o30_StandsT b30 k30 m30 o32_Longer b32 k32 m32 o31_Best b31 k31 m31 o12_Calm b12 k12 m12 o33_LotsR b33 k33 m33 m_range m_len m_list 
theorem walk {l : PySem.W.OpenLaw} {q : Program} {loose : List Str} {XP : (Str -> Option Value) -> Heap -> Prop} {YP : World -> Heap -> Prop} {d : DefRec} {K : Params -> PySem.W.Frag} (hn : l.most = some 63) (hdf : d.params.defaults = [])
    (hY : ∀ (w : World) (h : Heap), YP w h -> (K w.params).In h)
    (F : ∀ (w : World) (mg : Str -> Option Value) (fa : Addr) (h : Heap), (K w.params).In h -> h.Ns mainGlobals mg -> mg d.name = some (.ref fa) ->
      ∃ fd : FuncData, (∀ (s : Shared) (u : Value), BindsTo s fd ⟨[u], []⟩ [("_law_script", u)]) /\ ∀ base : Heap, (K w.params).In base -> base.Ns mainGlobals mg -> FnOk l.prog w (K w.params) mg base CX0 7 fa fd ["_law_script"] (spLaw (K w.params))) :
    PySem.W.WalkO q loose XP YP l.row.toRowW d [] (fun f vs => PySem.call f vs) :=
  L2.walkB (n := 63) (k := 7) (x := "_law_script") (sp := spLaw) hn (by decide) hdf ⟨rfl, by decide, by decide⟩ hY F (fun K H a ns hl hb hS => ⟨a, ns, rfl, hS, hl, hb, fun _ => rfl⟩)
end K79
open PySem PySem.W PyProof.Rows
theorem PySem.W.Fast.te16077642912432532075 : True := True.intro
set_option maxRecDepth 100000 in
set_option maxHeartbeats 0 in
theorem PySem.Challenge.cw_hangrings_k79_whole_no_calmer_way_holds : PySem.Challenge.rw_hangrings_k79_whole_no_calmer_way.Holds := by
  w_on; o_law; k_head; (case hw => w_witness2)
  k_fill
  refine K79.walk (l := PySem.Challenge.rw_hangrings_k79_whole_no_calmer_way) rfl rfl (fun w h Y => PySem.W.kIn_of Y) ?F
  case F =>
    intro w mg fa h KX G hmg
    refine' K79.all_mk KX G hmg (L2.DefAt.mk ?a1 ?l1 ?c1 ?k1) (L2.DefAt.mk ?a2 ?l2 ?c2 ?k2) (L2.DefAt.mk ?a4 ?l4 ?c4 ?k4) (L2.DefAt.mk ?a6 ?l6 ?c6 ?k6) (L2.DefAt.mk ?a8 ?l8 ?c8 ?k8) (L2.DefAt.mk ?a9 ?l9 ?c9 ?k9) (L2.DefAt.mk ?a10 ?l10 ?c10 ?k10) (L2.DefAt.mk ?a11 ?l11 ?c11 ?k11) (L2.DefAt.mk ?a14 ?l14 ?c14 ?k14) (L2.DefAt.mk ?a15 ?l15 ?c15 ?k15) (L2.DefAt.mk ?a17 ?l17 ?c17 ?k17) (L2.DefAt.mk ?a18 ?l18 ?c18 ?k18) (L2.DefAt.mk ?a19 ?l19 ?c19 ?k19) (L2.DefAt.mk ?a20 ?l20 ?c20 ?k20) (L2.DefAt.mk ?a21 ?l21 ?c21 ?k21) (L2.DefAt.mk ?a22 ?l22 ?c22 ?k22) (L2.DefAt.mk ?a23 ?l23 ?c23 ?k23) (L2.DefAt.mk ?a24 ?l24 ?c24 ?k24) (L2.DefAt.mk ?a25 ?l25 ?c25 ?k25) (L2.DefAt.mk ?a26 ?l26 ?c26 ?k26) (L2.DefAt.mk ?a27 ?l27 ?c27 ?k27) (L2.DefAt.mk ?a28 ?l28 ?c28 ?k28) (L2.DefAt.mk ?a29 ?l29 ?c29 ?k29) (L2.DefAt.mk ?a30 ?l30 ?c30 ?k30) (L2.DefAt.mk ?a31 ?l31 ?c31 ?k31) (L2.DefAt.mk ?a32 ?l32 ?c32 ?k32) (L2.DefAt.mk ?a33 ?l33 ?c33 ?k33) (L2.DefAt.mk ?a34 ?l34 ?c34 ?k34) (L2.DefAt.mk ?a3 ?l3 ?c3 ?k3) (L2.DefAt.mk ?a12 ?l12 ?c12 ?k12) (L2.DefAt.mk ?a13 ?l13 ?c13 ?k13)  ?z0 ?z1 ?z2 ?z3 ?z4 ?z5 ?z6 ?z7 ?z8 ?z9 ?z10
    (case a1 => k_is); (case l1 => k_is); (case c1 => k_is); (case k1 => k_is)
    (case a2 => k_is); (case l2 => k_is); (case c2 => k_is); (case k2 => k_is)
    (case a4 => k_is); (case l4 => k_is); (case c4 => k_is); (case k4 => k_is)
    (case a6 => k_is); (case l6 => k_is); (case c6 => k_is); (case k6 => k_is)
    (case a8 => k_is); (case l8 => k_is); (case c8 => k_is); (case k8 => k_is)
    (case a9 => k_is); (case l9 => k_is); (case c9 => k_is); (case k9 => k_is)
    (case a10 => k_is); (case l10 => k_is); (case c10 => k_is); (case k10 => k_is)
    (case a11 => k_is); (case l11 => k_is); (case c11 => k_is); (case k11 => k_is)
    (case a14 => k_is); (case l14 => k_is); (case c14 => k_is); (case k14 => k_is)
    (case a15 => k_is); (case l15 => k_is); (case c15 => k_is); (case k15 => k_is)
    (case a17 => k_is); (case l17 => k_is); (case c17 => k_is); (case k17 => k_is)
    (case a18 => k_is); (case l18 => k_is); (case c18 => k_is); (case k18 => k_is)
    (case a19 => k_is); (case l19 => k_is); (case c19 => k_is); (case k19 => k_is)
    (case a20 => k_is); (case l20 => k_is); (case c20 => k_is); (case k20 => k_is)
    (case a21 => k_is); (case l21 => k_is); (case c21 => k_is); (case k21 => k_is)
    (case a22 => k_is); (case l22 => k_is); (case c22 => k_is); (case k22 => k_is)
    (case a23 => k_is); (case l23 => k_is); (case c23 => k_is); (case k23 => k_is)
    (case a24 => k_is); (case l24 => k_is); (case c24 => k_is); (case k24 => k_is)
    (case a25 => k_is); (case l25 => k_is); (case c25 => k_is); (case k25 => k_is)
    (case a26 => k_is); (case l26 => k_is); (case c26 => k_is); (case k26 => k_is)
    (case a27 => k_is); (case l27 => k_is); (case c27 => k_is); (case k27 => k_is)
    (case a28 => k_is); (case l28 => k_is); (case c28 => k_is); (case k28 => k_is)
    (case a29 => k_is); (case l29 => k_is); (case c29 => k_is); (case k29 => k_is)
    (case a30 => k_is); (case l30 => k_is); (case c30 => k_is); (case k30 => k_is)
    (case a31 => k_is); (case l31 => k_is); (case c31 => k_is); (case k31 => k_is)
    (case a32 => k_is); (case l32 => k_is); (case c32 => k_is); (case k32 => k_is)
    (case a33 => k_is); (case l33 => k_is); (case c33 => k_is); (case k33 => k_is)
    (case a34 => k_is); (case l34 => k_is); (case c34 => k_is); (case k34 => k_is)
    (case a3 => k_is); (case l3 => k_is); (case c3 => k_is); (case k3 => k_is)
    (case a12 => k_is); (case l12 => k_is); (case c12 => k_is); (case k12 => k_is)
    (case a13 => k_is); (case l13 => k_is); (case c13 => k_is); (case k13 => k_is)
    (case z0 => k_is)
    (case z1 => k_is)
    (case z2 => k_is)
    (case z3 => k_is)
    (case z4 => k_is)
    (case z5 => k_is)
    (case z6 => k_is)
    (case z7 => k_is)
    (case z8 => k_is)
    (case z9 => k_is)
    (case z10 => k_is)
#print axioms PySem.Challenge.cw_hangrings_k79_whole_no_calmer_way_holds
end
