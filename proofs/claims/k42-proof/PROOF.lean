import PyProof.Rows.All
import KE.KLam
import KE.KNestM
import PyProof.OldK
import Wide.All
import OpenK.AllK
import Wide.FinOn
import Lean
import PyProof.EqAt
import PyProof.EqKinds
import PyProof.TupleCall
import KE.KRevIter
import PyProof.Rows.SeqMore
import PyProof.Rows.ListMulArg
import PyProof.ZipIter
import PyProof.Rows.ZipGen
import PyProof.EnumMake
import PyProof.StrWalks
import PyProof.SliceStr2
import PyProof.StrBlockH
import PyProof.FString5
import PyProof.Rows.StrJoin2
import PyProof.Rows.Range3
import KE.KDictLaws
import PyProof.ConsumeWalk
import PyProof.SumWalkG
import PyProof.Rows.SeqCalls
import PyProof.Rows.SeqGen
import PyProof.Rows.MinMaxN
import PyProof.Rows.CallKwBuiltin
import PyProof.Rows.SortStr
import PyProof.StrOps2
import PyProof.Rows.StrMul
import PyProof.IsRules
import PyProof.Rows.SetFrom
import PyProof.CollectStr
import KE.KSortTup
import PyProof.StrOps
import PyProof.StrLawsIn
import PySem.Challenge.RW_nailhang_k42_both_and_either
set_option Elab.async false
set_option linter.all false
set_option maxRecDepth 100000
set_option maxHeartbeats 4000000
namespace L2
open PySem PySem.Spec PyProof.Rows
noncomputable abbrev Key := Sum Int Str
noncomputable def keyIs : Key → Value → Bool
  | .inl k, v => Value.isInt k v
  | .inr x, v => Value.isStrOf x v
noncomputable def keyH (w : World) : Key → Int
  | .inl k => hashInt k
  | .inr x => hashStr w x
theorem keyIs_shape : ∀ {k : Key} {v : Value}, keyIs k v = true → (∃ i t, k = Sum.inl i ∧ v = Value.int i t) ∨ (∃ x t, k = Sum.inr x ∧ v = Value.str x t)
  | .inl i, v, h => by
    obtain ⟨t, e⟩ := Value.isInt_shape (k := i) (v := v) h
    exact .inl ⟨i, t, rfl, e⟩
  | .inr x, v, h => by
    obtain ⟨t, e⟩ := Value.isStrOf_shape (x := x) (v := v) h
    exact .inr ⟨x, t, rfl, e⟩
theorem key_ll (a b : Int) : decide ((Sum.inl a : Key) = Sum.inl b) = (a == b) := by
  by_cases e : a = b
  · subst e; simp
  · have h : ¬ (Sum.inl a : Key) = Sum.inl b := fun q => e (Sum.inl.inj q)
    rw [decide_eq_false h]
    exact (beq_eq_false_iff_ne.mpr e).symm
theorem key_rr (a b : Str) : decide ((Sum.inr a : Key) = Sum.inr b) = decide (a = b) := by
  by_cases e : a = b
  · subst e; simp
  · have h : ¬ (Sum.inr a : Key) = Sum.inr b := fun q => e (Sum.inr.inj q)
    rw [decide_eq_false h, decide_eq_false e]
theorem key_lr (a : Int) (b : Str) : decide ((Sum.inl a : Key) = Sum.inr b) = false := decide_eq_false (fun q => nomatch q)
theorem key_rl (a : Str) (b : Int) : decide ((Sum.inr a : Key) = Sum.inl b) = false := decide_eq_false (fun q => nomatch q)
noncomputable def mixKind (prog : Program) (w : World) : PySem.KeyKind prog w Key where
  is := keyIs
  hash := keyH w
  inj := fun v a b ha hb => by
    rcases keyIs_shape ha with ⟨i, t, rfl, rfl⟩ | ⟨x, t, rfl, rfl⟩
    · rcases keyIs_shape hb with ⟨j, u, rfl, e⟩ | ⟨y, u, rfl, e⟩
      · injection e with e1 _; rw [e1]
      · exact nomatch e
    · rcases keyIs_shape hb with ⟨j, u, rfl, e⟩ | ⟨y, u, rfl, e⟩
      · exact nomatch e
      · injection e with e1 _; rw [e1]
  byValue := fun k v h => by
    rcases keyIs_shape h with ⟨i, t, rfl, rfl⟩ | ⟨x, t, rfl, rfl⟩ <;> rfl
  pyHash := fun hv h => by
    rcases keyIs_shape hv with ⟨i, t, rfl, rfl⟩ | ⟨x, t, rfl, rfl⟩
    · exact wpAny_pyHash_int h
    · exact wpAny_pyHash_str h
  eqBool := fun hu hv h => by
    rcases keyIs_shape hu with ⟨i, t, rfl, rfl⟩ | ⟨x, t, rfl, rfl⟩
    · rcases keyIs_shape hv with ⟨j, u, rfl, rfl⟩ | ⟨y, u, rfl, rfl⟩
      · rw [key_ll] at h; exact wpAny_eqBool_int h
      · rw [key_lr] at h; exact SeqAt.EqAt.int_str i t y u _ _ _ _ h
    · rcases keyIs_shape hv with ⟨j, u, rfl, rfl⟩ | ⟨y, u, rfl, rfl⟩
      · rw [key_rl] at h; exact SeqAt.EqAt.str_int x t j u _ _ _ _ h
      · rw [key_rr] at h; exact wpAny_eqBool_str h
  «strs» := fun k x t v h => by
    rcases keyIs_shape h with ⟨i, u, rfl, e⟩ | ⟨y, u, rfl, e⟩
    · exact nomatch e
    · injection e with e1 _
      subst e1
      cases v <;> rfl
end L2
namespace L2
open PySem PySem.Spec PyProof.Rows
inductive V where
  | non | bl (b : Bool) | int (i : Int) | str (x : Str) | byt (b : Array UInt8) | flt (b : UInt64) | ref (a : Addr) | ty (n : String)
  deriving DecidableEq
noncomputable def RelV : V → Value → Prop
  | .non, u => u = Value.none
  | .bl b, u => u = Value.bool b
  | .int i, u => ∃ t, u = Value.int i t
  | .str x, u => ∃ t, u = Value.str x t
  | .byt b, u => ∃ t, u = Value.bytes b t
  | .flt b, u => ∃ t, u = Value.float b t
  | .ref a, u => u = Value.ref a
  | .ty n, u => u = Value.type n
noncomputable abbrev Vals : List V → List Value → Prop := Paired RelV
theorem Vals.length {xs : List V} {us : List Value} (r : Vals xs us) : xs.length = us.length := Paired.length r
theorem Vals.get : ∀ {xs : List V} {us : List Value} {i : Nat} {x : V}, Vals xs us → xs[i]? = some x → ∃ u, us[i]? = some u ∧ RelV x u
  | _, _, _, _, .nil, e => by simp at e
  | _, _, 0, _, .cons r _, e => by simp at e; subst e; exact ⟨_, rfl, r⟩
  | _, _, i + 1, x, .cons _ t, e => by
    obtain ⟨u, h1, h2⟩ := Vals.get (i := i) (x := x) t (by simpa using e)
    exact ⟨u, by simpa using h1, h2⟩
theorem Vals.set {x : V} {u : Value} (r : RelV x u) : ∀ {xs : List V} {us : List Value} (i : Nat), Vals xs us → Vals (xs.set i x) (us.set i u)
  | _, _, _, .nil => .nil
  | _, _, 0, .cons _ t => .cons r t
  | _, _, i + 1, .cons q t => .cons q (Vals.set r i t)
theorem Vals.append : ∀ {xs ys : List V} {us ws : List Value}, Vals xs us → Vals ys ws → Vals (xs ++ ys) (us ++ ws)
  | _, _, _, _, .nil, s => s
  | _, _, _, _, .cons r t, s => .cons r (Vals.append t s)
theorem Vals.take : ∀ {xs : List V} {us : List Value} (n : Nat), Vals xs us → Vals (xs.take n) (us.take n)
  | _, _, 0, _ => .nil
  | _, _, _ + 1, .nil => .nil
  | _, _, n + 1, .cons r t => .cons r (Vals.take n t)
theorem Vals.drop : ∀ {xs : List V} {us : List Value} (n : Nat), Vals xs us → Vals (xs.drop n) (us.drop n)
  | _, _, 0, r => r
  | _, _, _ + 1, .nil => .nil
  | _, _, n + 1, .cons _ t => Vals.drop n t
noncomputable def RelO : Option V → Option Value → Prop
  | some v, some u => RelV v u
  | none, none => True
  | _, _ => False
noncomputable def KV {κ : Type} : List (κ × V) → List (κ × Value) → Prop := Paired fun (p : κ × V) (q : κ × Value) => p.1 = q.1 ∧ RelV p.2 q.2
noncomputable def kV : Key → V
  | .inl i => .int i
  | .inr x => .str x
inductive HO where
  /-- a list -/
  | lst (xs : List V)
  /-- a tuple (never changes) -/
  | tup (xs : List V)
  /-- a dict whose keys are ints and texts; one whose keys are tuples of ints and texts (the empty one is both) -/
  | dK (kvs : List (Key × V)) | dT (kvs : List (List Key × V))
  /-- a set of ints: its members, its size -/
  | set (S : Int → Bool) (n : Nat)
  /-- an instance of the class at C, its dict at dx, its attributes -/
  | ins (C dx : Addr) (fs : List (Str × V))
  /-- the dict of the instance at x -/
  | own (x : Addr)
  /-- the dict of an exception -/
  | xd (fs : List (Str × V))
  /-- a bound method, f of x -/
  | met (f x : Addr)
  /-- a range object lo, lo + 1, .. below hi -/
  | rng (lo hi : Int)
  /-- a thing that is known to the object (the script; a dict while a loop walks it): read, never written while it is so -/
  | frz (o : Obj) (u : HO)
  /-- a code object's table -/
  | tbl (q : Str)
  /-- any other thing, by what is true of its one object (a def of one's own: SetO a S n := HO.ext fun h => ..) -/
  | ext (φ : Heap → Prop)
noncomputable abbrev Hp := Addr → Option HO
noncomputable def upd (H : Hp) (a : Addr) (o : HO) : Hp := fun b => if b = a then some o else H b
theorem upd_same {H : Hp} {a : Addr} {o : HO} : upd H a o a = some o := by unfold upd; rw [if_pos rfl]
theorem upd_ne {H : Hp} {a b : Addr} {o : HO} (h : b ≠ a) : upd H a o b = H b := by unfold upd; rw [if_neg h]
theorem ne_of {H : Hp} {a b : Addr} {o u : HO} (h : H a = some o) (h' : H b = some u) (d : o ≠ u) : a ≠ b := by
  intro e; subst e; rw [h] at h'; exact d (Option.some.inj h')
theorem ne_of_none {H : Hp} {a b : Addr} {o : HO} (h : H a = some o) (h' : H b = none) : a ≠ b := by
  intro e; subst e; rw [h] at h'; cases h'
section
variable (P : Program) (w : World)
noncomputable def ObjOk (H : Hp) (h : Heap) (a : Addr) : HO → Prop
  | .lst xs => xs.length ≤ sizeLine ∧ ∃ (its : List Value) (n : Nat), Vals xs its ∧ h.get? a = some { cls := .type "list", data := .seq its.toArray n }
  | .tup xs => xs.length ≤ sizeLine ∧ ∃ its : List Value, Vals xs its ∧ IsTup h a its.toArray
  | .dK kvs => kvs.length ≤ sizeLine ∧ (a == sysModules) = false ∧ ∃ vs, KV kvs vs ∧ h.DictOf (mixKind P w) a vs
  | .dT kvs => kvs.length ≤ sizeLine ∧ (a == sysModules) = false ∧ ∃ xs : List (List Key × Addr × Value),
      Paired (fun (p : List Key × V) (q : List Key × Addr × Value) => p.1 = q.1 ∧ H q.2.1 = some (.tup (p.1.map kV)) ∧ RelV p.2 q.2.2) kvs xs ∧
      ∃ o es ep, h.get? a = some o ∧ o.ExactDict ∧ o.data = .dict es ep ∧ es.toList = xs.map (entryOfKey (tupleKind (mixKind P w))) ∧ (xs.map (·.1)).Nodup
  | .set S n => h.SetOf (intKind P w) a S n
  | .ins C dx fs => H dx = some (.own a) ∧ fs.length ≤ 1000 ∧ dx ≠ a ∧ h.get? a = some (PySem.W.instObj C dx) ∧
      ∃ mA, h.Ns1 dx mA ∧ (∀ f, RelO (fs.lookup f) (mA f)) ∧ PySem.Within mA (fs.map (·.1))
  | .own _ => ∃ o, h.get? a = some o
  | .xd fs => ∃ mA, h.Ns1 a mA ∧ ∀ f, RelO (fs.lookup f) (mA f)
  | .rng lo hi => ∃ t u v, h.get? a = some { cls := .type "range", data := .fields #[.int lo t, .int hi u, .int 1 v] }
  | .frz o u => h.get? a = some o ∧ ObjOk H h a u
  | .tbl q => ∃ ps : Array Value, h.get? a = some (PySem.W.tabObj ps) ∧ TriplesOk ps.toList ∧ ∀ pos cv, codeAmong pos ps.toList = some cv → ∃ c, cv = Value.ref c ∧ H c = some (.own a) ∧ h.CodeRec cv q
  | .met f x => h.get? a = some (PySem.W.methodObj (.ref f) (.ref x))
  | .ext φ => φ h ∧ (∃ o, h.get? a = some o) ∧ ∀ h1 h2 : Heap, φ h1 → (∀ o, h1.get? a = some o → h2.get? a = some o) → φ h2
noncomputable def HOk (H : Hp) (h : Heap) : Prop := ∀ a o, H a = some o → ObjOk P w H h a o
end
section
variable {P : Program} {w : World} {H H' : Hp} {h h' : Heap} {a : Addr} {o : HO}
theorem ObjOk.lt (x : ObjOk P w H h a o) : a < h.objs.size := by
  cases o with
  | lst xs => obtain ⟨_, _, _, _, e⟩ := x; exact Heap.lt_size e
  | tup xs => obtain ⟨_, _, _, p⟩ := x; exact p.lt
  | dK kvs => obtain ⟨_, _, _, _, o, _, _, e, _⟩ := x; exact Heap.lt_size e
  | dT kvs => obtain ⟨_, _, _, _, o, _, _, e, _⟩ := x; exact Heap.lt_size e
  | set S n => obtain ⟨o, _, _, _, e, _⟩ := x; exact Heap.lt_size e
  | ins C dx fs => obtain ⟨_, _, _, e, _⟩ := x; exact Heap.lt_size e
  | own y => obtain ⟨_, e⟩ := x; exact Heap.lt_size e
  | xd fs => obtain ⟨_, ⟨_, _, _, e, _⟩, _⟩ := x; exact Heap.lt_size e
  | rng lo hi => obtain ⟨_, _, _, e⟩ := x; exact Heap.lt_size e
  | frz ob u => obtain ⟨e, _⟩ := x; exact Heap.lt_size e
  | tbl q => obtain ⟨_, e, _⟩ := x; exact Heap.lt_size e
  | met f y => exact Heap.lt_size (show h.get? a = some _ from x)
  | ext φ => obtain ⟨_, ⟨_, e⟩, _⟩ := x; exact Heap.lt_size e
theorem Paired.mapP {α β : Type} {F G : α → β → Prop} : ∀ {l₁ : List α} {l₂ : List β}, Paired F l₁ l₂ → (∀ a b, F a b → G a b) → Paired G l₁ l₂
  | _, _, .nil, _ => .nil
  | _, _, .cons r t, f => .cons (f _ _ r) (Paired.mapP t f)
theorem ObjOk.stay (x : ObjOk P w H h a o) (k : ∀ b u, (b = a ∨ H b = some (.own a)) → h.get? b = some u → h'.get? b = some u)
    (ho : ∀ b, H b = some (.own a) → H' b = some (.own a)) (ht : ∀ b xs, H b = some (.tup xs) → H' b = some (.tup xs)) : ObjOk P w H' h' a o := by
  induction o with
  | lst xs => obtain ⟨z, its, n, r, e⟩ := x; exact ⟨z, its, n, r, k _ _ (.inl rfl) e⟩
  | tup xs => obtain ⟨z, its, r, ob, e, c⟩ := x; exact ⟨z, its, r, ob, k _ _ (.inl rfl) e, c⟩
  | dK kvs => obtain ⟨z, y, vs, r, ob, es, ep, e, c⟩ := x; exact ⟨z, y, vs, r, ob, es, ep, k _ _ (.inl rfl) e, c⟩
  | dT kvs =>
    obtain ⟨z, y, xs, r, ob, es, ep, e, c⟩ := x
    exact ⟨z, y, xs, Paired.mapP r fun p q z => ⟨z.1, ht _ _ z.2.1, z.2.2⟩, ob, es, ep, k _ _ (.inl rfl) e, c⟩
  | set S n => obtain ⟨ob, es, ep, t, e, c⟩ := x; exact ⟨ob, es, ep, t, k _ _ (.inl rfl) e, c⟩
  | ins C dx fs =>
    obtain ⟨d, z, ne, e, mA, ⟨od, es, ep, e2, c⟩, r⟩ := x
    exact ⟨ho _ d, z, ne, k _ _ (.inl rfl) e, mA, ⟨od, es, ep, k _ _ (.inr d) e2, c⟩, r⟩
  | own y => obtain ⟨ob, e⟩ := x; exact ⟨ob, k _ _ (.inl rfl) e⟩
  | xd fs => obtain ⟨mA, ⟨od, es, ep, e, c⟩, r⟩ := x; exact ⟨mA, ⟨od, es, ep, k _ _ (.inl rfl) e, c⟩, r⟩
  | rng lo hi => obtain ⟨t, u, v, e⟩ := x; exact ⟨t, u, v, k _ _ (.inl rfl) e⟩
  | frz ob u ih => obtain ⟨e, q⟩ := x; exact ⟨k _ _ (.inl rfl) e, ih q⟩
  | tbl q =>
    obtain ⟨ps, e, t, r⟩ := x
    refine ⟨ps, k _ _ (.inl rfl) e, t, fun pos cv z => ?_⟩
    obtain ⟨c, ec, ho', c2, oc, vs, tq, hc, hoc, hd⟩ := r pos cv z
    subst ec
    cases hc
    exact ⟨c, rfl, ho _ ho', c, oc, vs, tq, rfl, k _ _ (.inr ho') hoc, hd⟩
  | met f y =>
    have e : h.get? a = some (PySem.W.methodObj (.ref f) (.ref y)) := x
    show h'.get? a = some (PySem.W.methodObj (.ref f) (.ref y))
    exact k a _ (.inl rfl) e
  | ext φ => obtain ⟨p, ⟨o, e⟩, st⟩ := x; exact ⟨st _ _ p fun o q => k _ _ (.inl rfl) q, ⟨o, k _ _ (.inl rfl) e⟩, st⟩
theorem HOk.lt (x : HOk P w H h) (e : H a = some o) : a < h.objs.size := (x a o e).lt
theorem HOk.fresh (x : HOk P w H h) (e : h.objs.size ≤ a) : H a = none := by
  cases q : H a with
  | none => rfl
  | some u => exact absurd (Nat.lt_of_lt_of_le (x.lt q) e) (Nat.lt_irrefl _)
theorem HOk.kept (x : HOk P w H h) (k : ∀ b u, h.get? b = some u → h'.get? b = some u) : HOk P w H h' := fun a o e =>
  (x a o e).stay (fun b u _ q => k b u q) (fun _ q => q) fun _ _ q => q
theorem HOk.laid (x : HOk P w H h) (k : ∀ b u, h.get? b = some u → h'.get? b = some u) (hp : h.objs.size ≤ a) (new : ObjOk P w (upd H a o) h' a o) : HOk P w (upd H a o) h' := fun b u e => by
  have hn := x.fresh hp
  by_cases hb : b = a
  · subst hb; rw [upd_same] at e; cases e; exact new
  · rw [upd_ne hb] at e
    exact (x b u e).stay (fun c v _ q => k c v q) (fun c q => by rw [upd_ne (ne_of_none q hn)]; exact q) fun c xs q => by rw [upd_ne (ne_of_none q hn)]; exact q
end
noncomputable def Rd (H : Hp) (a : Addr) (u : HO) : Prop := H a = some u ∨ ∃ o, H a = some (.frz o u)
theorem Rd.of {H : Hp} {a : Addr} {u : HO} (h : H a = some u) : Rd H a u := .inl h
theorem Rd.ok {P : Program} {w : World} {H : Hp} {h : Heap} {a : Addr} {u : HO} (r : Rd H a u) (x : HOk P w H h) : ObjOk P w H h a u := by
  rcases r with r | ⟨o, r⟩
  · exact x a u r
  · obtain ⟨_, q⟩ := x a _ r
    exact q
noncomputable def Mut : Option HO → Prop
  | some (.lst _) => True
  | some (.dK _) => True
  | some (.dT _) => True
  | some (.set _ _) => True
  | some (.ins _ _ _) => True
  | some (.ext _) => True
  | _ => False
section
variable {P : Program} {w : World} {H : Hp} {h h' : Heap} {x e : Addr} {o' : HO}
theorem HOk.write (ok : HOk P w H h) (mu : Mut (H x)) (he : e = x ∨ H e = some (.own x)) (k : ∀ b u, b ≠ e → h.get? b = some u → h'.get? b = some u) (heo : ∃ u, h'.get? e = some u)
    (new : ObjOk P w (upd H x o') h' x o') : HOk P w (upd H x o') h' := fun b u q => by
  have nown : ∀ c y, H c = some (.own y) → c ≠ x := fun c y r z => by subst z; rw [r] at mu; exact mu
  have ntup : ∀ c xs, H c = some (.tup xs) → c ≠ x := fun c xs r z => by subst z; rw [r] at mu; exact mu
  by_cases hb : b = x
  · subst hb; rw [upd_same] at q; cases q; exact new
  · rw [upd_ne hb] at q
    by_cases hbe : b = e
    · have q' : H b = some (.own x) := by
        rcases he with z | z
        · exact absurd (hbe.trans z) hb
        · rw [hbe]; exact z
      rw [q] at q'; cases q'
      obtain ⟨v, hv⟩ := heo
      exact ⟨v, by rw [hbe]; exact hv⟩
    · refine (ok b u q).stay (fun c v hc r => k c v ?_ r) (fun c r => by rw [upd_ne (nown c b r)]; exact r) fun c xs r => by rw [upd_ne (ntup c xs r)]; exact r
      rcases hc with rfl | hc
      · exact hbe
      · rintro rfl
        rcases he with z | z
        · exact nown c b hc z
        · rw [hc] at z; cases z; exact hb rfl
end
structure Un (fs ex : List Addr) (H H' : Hp) (h h' : Heap) : Prop where
  keep : ∀ b o, h.get? b = some o → H b = none → b ∉ fs → b ∉ ex → h'.get? b = some o
  slot : ∀ b o, h.get? b = some o → H b = none → b ∈ fs → b ∉ ex → ∃ sl, h'.get? b = some { o with slots := sl }
  free : ∀ b o, h.get? b = some o → H b = none → b ∉ ex → H' b = none
  there : ∀ b o, h.get? b = some o → b ∉ ex → ∃ o', h'.get? b = some o'
  tups : ∀ b xs, H b = some (.tup xs) → H' b = some (.tup xs)
  frzs : ∀ b o u, H b = some (.frz o u) → H' b = some (.frz o u)
  tbls : ∀ b ps, H b = some (.tbl ps) → H' b = some (.tbl ps)
section
variable {fs fs' ex ex' : List Addr} {H H1 H2 : Hp} {h h1 h2 h' : Heap} {a x e : Addr} {o : HO}
theorem Un.any (u : Un fs ex H H1 h h1) {b : Addr} {ob : Obj} (q : h.get? b = some ob) (n : H b = none) (hx : b ∉ ex) : ∃ sl, h1.get? b = some { ob with slots := sl } := by
  by_cases hb : b ∈ fs
  · exact u.slot b ob q n hb hx
  · exact ⟨ob.slots, u.keep b ob q n hb hx⟩
theorem Un.trans (a : Un fs ex H H1 h h1) (b : Un fs ex H1 H2 h1 h2) : Un fs ex H H2 h h2 where
  keep := fun c ob q n hc hx => b.keep c ob (a.keep c ob q n hc hx) (a.free c ob q n hx) hc hx
  slot := fun c ob q n hc hx => by
    obtain ⟨sl, e1⟩ := a.slot c ob q n hc hx
    obtain ⟨sl', e2⟩ := b.slot c _ e1 (a.free c ob q n hx) hc hx
    exact ⟨sl', e2⟩
  free := fun c ob q n hx => by
    obtain ⟨o', e1⟩ := a.there c ob q hx
    exact b.free c o' e1 (a.free c ob q n hx) hx
  there := fun c ob q hx => by
    obtain ⟨o', e1⟩ := a.there c ob q hx
    exact b.there c o' e1 hx
  tups := fun c xs q => b.tups c xs (a.tups c xs q)
  frzs := fun c ob xs q => b.frzs c ob xs (a.frzs c ob xs q)
  tbls := fun c ps q => b.tbls c ps (a.tbls c ps q)
theorem Un.kept (k : ∀ b u, h.get? b = some u → h'.get? b = some u) : Un fs ex H H h h' :=
  ⟨fun b ob q _ _ _ => k b ob q, fun b ob q _ _ _ => ⟨ob.slots, k b ob q⟩, fun _ _ _ n _ => n, fun b ob q _ => ⟨ob, k b ob q⟩, fun _ _ q => q, fun _ _ _ q => q, fun _ _ q => q⟩
theorem Un.refl : Un fs ex H H h h := Un.kept fun _ _ q => q
theorem Un.laid (k : ∀ b u, h.get? b = some u → h'.get? b = some u) (hp : h.objs.size ≤ a) (hn : H a = none) : Un fs ex H (upd H a o) h h' where
  keep := fun b u q _ _ _ => k b u q
  slot := fun b u q _ _ _ => ⟨u.slots, k b u q⟩
  free := fun b u q n _ => by rw [upd_ne (Nat.ne_of_lt (Nat.lt_of_lt_of_le (Heap.lt_size q) hp))]; exact n
  there := fun b u q _ => ⟨u, k b u q⟩
  tups := fun b xs q => by rw [upd_ne (ne_of_none q hn)]; exact q
  frzs := fun b u xs q => by rw [upd_ne (ne_of_none q hn)]; exact q
  tbls := fun b ps q => by rw [upd_ne (ne_of_none q hn)]; exact q
theorem Un.write (mu : Mut (H x)) (he : e = x ∨ H e = some (.own x)) (k : ∀ b u, b ≠ e → h.get? b = some u → h'.get? b = some u) (heo : ∃ u, h'.get? e = some u) : Un fs ex H (upd H x o) h h' := by
  have hx : ∀ b, H b = none → b ≠ x := fun b n z => by subst z; rw [n] at mu; exact mu
  have hb : ∀ b, H b = none → b ≠ e := fun b n z => by
    subst z
    rcases he with r | r
    · exact hx b n r
    · rw [n] at r; cases r
  have hm : ∀ b u, H b = some u → ¬ Mut (some u) → b ≠ x := fun b u q nm z => by subst z; rw [q] at mu; exact nm mu
  refine ⟨fun b u q n _ _ => k b u (hb b n) q, fun b u q n _ _ => ⟨u.slots, k b u (hb b n) q⟩, fun b u q n _ => by rw [upd_ne (hx b n)]; exact n, fun b u q _ => ?_,
    fun b xs q => by rw [upd_ne (hm b _ q fun z => z)]; exact q, fun b u xs q => by rw [upd_ne (hm b _ q fun z => z)]; exact q, fun b ps q => by rw [upd_ne (hm b _ q fun z => z)]; exact q⟩
  by_cases hbe : b = e
  · subst hbe; exact heo
  · exact ⟨u, k b u hbe q⟩
theorem Un.mono (u : Un fs ex H H1 h h1) (hs : ∀ b ∈ fs, b ∈ fs') (hx : ∀ b ∈ ex, b ∈ ex') : Un fs' ex' H H1 h h1 :=
  ⟨fun b ob q n hb he => u.keep b ob q n (fun z => hb (hs b z)) fun z => he (hx b z), fun _ _ q n _ he => u.any q n fun z => he (hx _ z), fun b ob q n he => u.free b ob q n fun z => he (hx b z), fun b ob q he => u.there b ob q fun z => he (hx b z), u.tups, u.frzs, u.tbls⟩
end
noncomputable def trk (h : Heap) (H : Hp) : List Addr := (List.range h.objs.size).filter fun a => (H a).isSome
noncomputable def hidT (h : Heap) (H : Hp) : Heap := PySem.W.hideAll h (trk h H)
theorem hidT_size (h : Heap) (H : Hp) : (hidT h H).objs.size = h.objs.size := PySem.W.hideAll_size _ _
theorem hidT_get {h : Heap} {H : Hp} {b : Addr} {o : Obj} (e : h.get? b = some o) (n : H b = none) : (hidT h H).get? b = some o :=
  PySem.W.hideAll_get _ e fun hm => by
    have q : (H b).isSome = true := (List.mem_filter.mp hm).2
    rw [n] at q; simp at q
theorem of_hidT {h : Heap} {H : Hp} {b : Addr} {o : Obj} (e : (hidT h H).get? b = some o) : h.get? b = some o ∧ H b = none := by
  have e' : h.get? b = some o := PySem.W.of_hideAll (trk h H) e
  refine ⟨e', ?_⟩
  cases q : H b with
  | none => rfl
  | some x =>
    have hm : b ∈ trk h H := List.mem_filter.mpr ⟨List.mem_range.mpr (Heap.lt_size e'), by simp [q]⟩
    have z : (hidT h H).get? b = none := PySem.W.hideAll_none (trk h H) hm
    rw [z] at e; cases e
noncomputable def allNews (g h : Heap) (L : Addr) : List (Addr × Obj) := (List.range h.objs.size).filterMap fun a => if a = L ∨ (g.get? a).isSome = true then none else (h.get? a).map fun o => (a, o)
noncomputable def rest (g h : Heap) (L d : Addr) : List (Addr × Obj) := (allNews g h L).filter fun p => decide (p.1 ≠ d)
end L2
namespace L2
open PySem PySem.Spec PyProof.Rows
noncomputable def tabP (K : PySem.W.Frag) : Option Addr := match PySem.W.nsIn K mainGlobals "in_told_order" with
  | some (some (.ref f)) => match K.lookup f with
    | some ⟨_, _, .func fd, _⟩ => match fd.code with
      | .ref c => match K.lookup c with
        | some ⟨_, _, .fields vs, _⟩ => match (vs[11]? : Option Value) with
          | some (.ref P) => some P
          | _ => none
        | _ => none
      | _ => none
    | _ => none
  | _ => none
noncomputable def tabQ (K : PySem.W.Frag) (b : Addr) : Option Str := if tabP K = some b then some (Str.ofString "in_told_order.<locals>.<lambda>") else none
structure Mod (K : PySem.W.Frag) (mg : Str → Option Value) (base : Heap) : Prop where
  kin : K.In base
  glob : base.Ns mainGlobals mg
  blt : ∃ mb, base.Ns builtinsNs mb ∧ ∀ x : Str, x ≠ "__name__" → mb x = bootBuiltins x
  nolimit : base.NoLimit
  bmain : ∃ bm ob, mg "__builtins__" = some (.ref bm) ∧ bm ≠ builtinsNs ∧ base.get? bm = some ob ∧ ob.cls = .type "module" ∧ ob.dict = some builtinsNs ∧ ob.data = .plain
structure Cx where
  prog : Program
  w : World
  K : PySem.W.Frag
  mg : Str → Option Value
  base : Heap
  A : Around
  N : List Str
  s₀ : Shared
  H₀ : Hp
  env : Env
  outer : List Env
  stack : List Env
  ex : List Addr
  fn : Str → Bool
  calm : Bool
  pn : List (Addr × Obj)
  xe : Value → Shared → Prop
noncomputable def frs (l : List Env) : List Addr := l.filterMap (·.frame)
noncomputable abbrev Cx.fs (X : Cx) : List Addr := frs X.outer
noncomputable def Vis (sc : Scope) (x : Str) : Prop := sc.names.lookup x = some .local ∨ sc.names.lookup x = some .cell ∨ sc.names.lookup x = some .free
noncomputable def Loc (sc : Scope) (x : Str) : Prop := sc.names.lookup x = some .local ∨ sc.names.lookup x = some .cell
noncomputable def Look (env : Env) (h : Heap) (m : Str → Option Value) (x : Str) (u : Value) : Prop :=
  (env.kindOf x = some .local ∧ m x = some u) ∨ ((env.kindOf x = some .cell ∨ env.kindOf x = some .free) ∧ ∃ c, env.cells.lookup x = some c ∧ h.IsCell c (some u))
structure Cx.Ok (X : Cx) : Prop where
  mod : Mod X.K X.mg X.base
  kind : X.env.scope.kind = .function
  glob : X.env.globals = mainGlobals
  blt : X.env.builtins = builtinsNs
  above : X.s₀.heap.objs.size ≤ X.env.locals
  inj : ∀ x y c, X.env.cells.lookup x = some c → X.env.cells.lookup y = some c → x = y
  has : ∀ x, (X.env.kindOf x = some .cell ∨ X.env.kindOf x = some .free) → ∃ c, X.env.cells.lookup x = some c
  cab : ∀ x c, X.fn x = true → X.env.cells.lookup x = some c → X.s₀.heap.objs.size ≤ c
  hd : X.calm = true → X.A.handled = none
  frames : X.A.frames = some X.stack
  stk : X.stack = X.outer ∨ (X.stack = X.env :: X.outer ∧ X.env.frame = some X.env.locals)
  exf : ∀ b ∈ X.ex, b ≠ X.env.locals ∧ ∀ x c, X.env.cells.lookup x = some c → c ≠ b
  bs : ∀ b o, X.base.get? b = some o → X.s₀.heap.get? b = some o ∧ X.H₀ b = none
  bsz : X.base.objs.size ≤ X.s₀.heap.objs.size
  noex : ∀ b o, X.base.get? b = some o → b ∉ X.ex
  exfs : ∀ b ∈ X.ex, b ∉ X.fs
  funs : X.s₀.heap.FunFrames X.base X.outer
  frf : ∀ b ∈ X.fs, X.H₀ b = none
  tab : ∀ b q, tabQ X.K b = some q → X.H₀ b = some (.tbl q)
structure Inv (X : Cx) (pins : List (Addr × Obj)) (σ : List (Option V)) (H : Hp) (s : Shared) : Prop where
  ok : X.Ok
  os : s.os = X.s₀.os
  bare : AllBare s.gens
  base : Un X.fs X.ex X.H₀ H X.s₀.heap s.heap
  loc : ∃ m, s.heap.Ns X.env.locals m ∧ ∀ (i : Nat) (x : Str) (v : V), X.N[i]? = some x → σ[i]? = some (some v) → Vis X.env.scope x → ∃ u, RelV v u ∧ Look X.env s.heap m x u
  cell : ∀ x c, X.env.cells.lookup x = some c → ∃ v, s.heap.IsCell c v
  free : H X.env.locals = none
  freeC : ∀ x c, X.env.cells.lookup x = some c → H c = none
  pin : ∀ p ∈ X.pn ++ pins, s.heap.get? p.1 = some p.2 ∧ H p.1 = none ∧ p.1 ≠ X.env.locals ∧ p.1 ∉ X.fs ∧ ∀ v, p.2.data ≠ .cell v
  hok : HOk X.prog X.w H s.heap
  len : σ.length = X.N.length
section
variable {X : Cx} {pins : List (Addr × Obj)} {σ : List (Option V)} {H H' : Hp} {s : Shared} {h' : Heap}
theorem Cx.Ok.nofr (ok : X.Ok) {b : Addr} {o : Obj} (e : X.base.get? b = some o) : b ∉ X.fs := fun hb => by
  have := (ok.funs.mem hb).1
  rw [e] at this; cases this
theorem Inv.bs (I : Inv X pins σ H s) : ∀ b o, X.base.get? b = some o → s.heap.get? b = some o ∧ H b = none := fun b o e =>
  ⟨I.base.keep b o (I.ok.bs b o e).1 (I.ok.bs b o e).2 (I.ok.nofr e) (I.ok.noex b o e), I.base.free b o (I.ok.bs b o e).1 (I.ok.bs b o e).2 (I.ok.noex b o e)⟩
theorem Inv.bk (I : Inv X pins σ H s) : ∀ b o, X.base.get? b = some o → s.heap.get? b = some o := fun b o e => (I.bs b o e).1
theorem Inv.mod (I : Inv X pins σ H s) : Mod X.K X.mg X.base := I.ok.mod
theorem Inv.tab (I : Inv X pins σ H s) : ∀ b q, tabQ X.K b = some q → H b = some (.tbl q) := fun b q e => I.base.tbls b q (I.ok.tab b q e)
theorem Inv.kIn (I : Inv X pins σ H s) : X.K.In s.heap := I.ok.mod.kin.keeps I.bk
theorem Inv.nolimit (I : Inv X pins σ H s) : s.heap.NoLimit := I.ok.mod.nolimit.keeps I.bk
theorem Inv.fr (I : Inv X pins σ H s) : ∃ m, Fr X.base X.env.locals s.heap m :=
  let ⟨m, hn, _⟩ := I.loc
  ⟨m, hn, I.bk, Nat.le_trans I.ok.bsz I.ok.above⟩
theorem Inv.lt (I : Inv X pins σ H s) : X.env.locals < s.heap.objs.size := let ⟨_, hn, _⟩ := I.loc; hn.lt
theorem Inv.sz (I : Inv X pins σ H s) : X.s₀.heap.objs.size ≤ s.heap.objs.size := Nat.le_trans I.ok.above (Nat.le_of_lt I.lt)
theorem Inv.nofs (I : Inv X pins σ H s) {a : Addr} (h : s.heap.objs.size ≤ a) : a ∉ X.fs := fun hb => by
  obtain ⟨_, o, ho, _⟩ := I.ok.funs.mem hb
  exact absurd (Nat.lt_of_lt_of_le (Heap.lt_size ho) (Nat.le_trans I.sz h)) (Nat.lt_irrefl _)
theorem Inv.cne (I : Inv X pins σ H s) : ∀ x c, X.env.cells.lookup x = some c → c ≠ X.env.locals := fun x c e z => by
  obtain ⟨v, o, ho, hd⟩ := I.cell x c e
  obtain ⟨m, ⟨o', es, ep, ho', hd', _⟩, _⟩ := I.loc
  rw [z, ho'] at ho; cases ho; rw [hd'] at hd; cases hd
theorem Inv.funs (I : Inv X pins σ H s) : s.heap.FunFrames X.base X.outer := by
  have all : ∀ (l : List Env), (∀ b ∈ frs l, b ∈ X.fs) → X.s₀.heap.FunFrames X.base l → s.heap.FunFrames X.base l := by
    intro l
    induction l with
    | nil => intro _ _; trivial
    | cons env r ih =>
      intro hs hl
      obtain ⟨hk, ⟨L, o, hf, hn, ho, hd⟩, hr⟩ := hl
      have hL : L ∈ X.fs := hs L (by unfold frs; rw [List.filterMap_cons, hf]; exact List.mem_cons_self)
      obtain ⟨sl, e⟩ := I.base.slot L o ho (I.ok.frf L hL) hL fun z => I.ok.exfs L z hL
      exact ⟨hk, ⟨L, _, hf, hn, e, hd⟩, ih (fun b hb => hs b (by unfold frs; rw [List.filterMap_cons, hf]; exact List.mem_cons_of_mem _ hb)) hr⟩
  exact all X.outer (fun _ hb => hb) I.ok.funs
theorem Inv.stack (I : Inv X pins σ H s) : s.heap.FunFrames X.base X.stack := by
  rcases I.ok.stk with e | ⟨e, hf⟩
  · rw [e]; exact I.funs
  · rw [e]
    obtain ⟨m, hn, _⟩ := I.loc
    refine .cons (by rw [I.ok.kind]; decide) hf hn ?_ I.funs
    exact Heap.get?_none_of_le (Nat.le_trans I.ok.bsz I.ok.above)
theorem Inv.stkSub (I : Inv X pins σ H s) : ∀ b ∈ frs X.stack, b ∈ X.env.locals :: X.fs := fun b hb => by
  rcases I.ok.stk with e | ⟨e, hf⟩
  · rw [e] at hb; exact List.mem_cons_of_mem _ hb
  · rw [e] at hb
    unfold frs at hb
    rw [List.filterMap_cons, hf] at hb
    exact hb
theorem Inv.stkFree (I : Inv X pins σ H s) : ∀ b ∈ frs X.stack, H b = none := fun b hb => by
  rcases List.mem_cons.mp (I.stkSub b hb) with e | hb
  · rw [e]; exact I.free
  · obtain ⟨_, o, ho, _⟩ := I.ok.funs.mem hb
    exact I.base.free b o ho (I.ok.frf b hb) fun z => I.ok.exfs b z hb
theorem Inv.step {g' : Array GenState} {t' : Nat} {d' : Drawn} {ch : List Addr} (I : Inv X pins σ H s)
    (hch : ∀ b ∈ ch, (b ∈ X.ex ∨ X.s₀.heap.objs.size ≤ b) ∧ b ≠ X.env.locals ∧ (∀ x c, X.env.cells.lookup x = some c → c ≠ b) ∧ ∀ p ∈ X.pn ++ pins, p.1 ≠ b)
    (keep : ∀ b o, b ≠ X.env.locals → b ∉ X.fs → b ∉ ch → s.heap.get? b = some o → H b = none → h'.get? b = some o)
    (slot : ∀ b o, b ≠ X.env.locals → b ∈ X.fs → b ∉ ch → s.heap.get? b = some o → H b = none → ∃ sl, h'.get? b = some { o with slots := sl }) (free : ∀ b o, b ∉ ch → s.heap.get? b = some o → H b = none → H' b = none)
    (there : ∀ b o, b ∉ ch → s.heap.get? b = some o → ∃ o', h'.get? b = some o')
    (tups : ∀ b xs, H b = some (.tup xs) → H' b = some (.tup xs)) (frzs : ∀ b o u, H b = some (.frz o u) → H' b = some (.frz o u)) (tbls : ∀ b ps, H b = some (.tbl ps) → H' b = some (.tbl ps))
    (ns : ∀ m, s.heap.Ns X.env.locals m → h'.Ns X.env.locals m) (hok : HOk X.prog X.w H' h') (hg : AllBare g') :
    Inv X pins σ H' { s with heap := h', gens := g', drawn := d', toks := t' } := by
  have neL : ∀ b o, X.s₀.heap.get? b = some o → b ≠ X.env.locals := fun b o e => Nat.ne_of_lt (Nat.lt_of_lt_of_le (Heap.lt_size e) I.ok.above)
  have neC : ∀ b o, X.s₀.heap.get? b = some o → b ∉ X.ex → b ∉ ch := fun b o e hx hb => by
    rcases (hch b hb).1 with z | z
    · exact hx z
    · exact absurd (Nat.lt_of_lt_of_le (Heap.lt_size e) z) (Nat.lt_irrefl _)
  have cellK : ∀ x c, X.env.cells.lookup x = some c → ∀ v, s.heap.IsCell c v → h'.IsCell c v := fun x c e v ⟨o, ho, hd⟩ => by
    have nch : c ∉ ch := fun z => (hch c z).2.2.1 x c e rfl
    by_cases hc : c ∈ X.fs
    · obtain ⟨sl, q⟩ := slot c o (I.cne x c e) hc nch ho (I.freeC x c e)
      exact ⟨_, q, hd⟩
    · exact ⟨o, keep c o (I.cne x c e) hc nch ho (I.freeC x c e), hd⟩
  refine ⟨I.ok, I.os, hg, ⟨fun b o e n hb hx => ?_, fun b o e n hb hx => ?_, fun b o e n hx => ?_, fun b o e hx => ?_, fun b xs e => tups b xs (I.base.tups b xs e), fun b o xs e => frzs b o xs (I.base.frzs b o xs e), fun b ps e => ?_⟩, ?_, fun x c e => ?_, ?_, fun x c e => ?_, fun p hp => ?_, hok, I.len⟩
  · exact keep b o (neL b o e) hb (neC b o e hx) (I.base.keep b o e n hb hx) (I.base.free b o e n hx)
  · obtain ⟨sl, e1⟩ := I.base.slot b o e n hb hx
    obtain ⟨sl', e2⟩ := slot b _ (neL b o e) hb (neC b o e hx) e1 (I.base.free b o e n hx)
    exact ⟨sl', e2⟩
  · obtain ⟨o', e1⟩ := I.base.there b o e hx
    exact free b o' (neC b o e hx) e1 (I.base.free b o e n hx)
  · obtain ⟨o', e1⟩ := I.base.there b o e hx
    exact there b o' (neC b o e hx) e1
  · exact tbls b _ (I.base.tbls b ps e)
  · obtain ⟨m, hn, hl⟩ := I.loc
    refine ⟨m, ns m hn, fun i x v e1 e2 e3 => ?_⟩
    obtain ⟨u, r, l⟩ := hl i x v e1 e2 e3
    refine ⟨u, r, ?_⟩
    rcases l with l | ⟨k, c, e, z⟩
    · exact .inl l
    · exact .inr ⟨k, c, e, cellK x c e _ z⟩
  · obtain ⟨v, z⟩ := I.cell x c e
    exact ⟨v, cellK x c e v z⟩
  · obtain ⟨m, ⟨o, _, _, ho, _⟩, _⟩ := I.loc
    exact free _ o (fun z => (hch _ z).2.1 rfl) ho I.free
  · obtain ⟨v, o, ho, hd⟩ := I.cell x c e
    exact free c o (fun z => (hch c z).2.2.1 x c e rfl) ho (I.freeC x c e)
  · obtain ⟨e, n, ne, nf, d⟩ := I.pin p hp
    have nch : p.1 ∉ ch := fun z => (hch p.1 z).2.2.2 p hp rfl
    exact ⟨keep p.1 p.2 ne nf nch e n, free p.1 p.2 nch e n, ne, nf, d⟩
theorem Inv.un {t' : Nat} (I : Inv X pins σ H s) (u : Un X.fs [] H H' s.heap h') (hok : HOk X.prog X.w H' h') : Inv X pins σ H' { s with heap := h', toks := t' } := by
  obtain ⟨m, ⟨o, es, ep, ho, r⟩, _⟩ := id I.loc
  obtain ⟨sl, hL⟩ := u.any ho I.free (by simp)
  exact I.step (g' := s.gens) (d' := s.drawn) (ch := []) (fun _ z => nomatch z) (fun b o _ hb _ e n => u.keep b o e n hb (by simp)) (fun b o _ hb _ e n => u.slot b o e n hb (by simp)) (fun b o _ e n => u.free b o e n (by simp)) (fun b o _ e => u.there b o e (by simp)) u.tups u.frzs u.tbls (fun m' hm => by
    obtain ⟨o', es', ep', ho', r'⟩ := hm
    rw [ho] at ho'; cases ho'
    exact ⟨_, es', ep', hL, r'⟩) hok I.bare
theorem Inv.call {g' : Array GenState} {t' : Nat} {d' : Drawn} {ch : List Addr} (I : Inv X pins σ H s) (u : Un (frs X.stack) ch H H' s.heap h') (hok : HOk X.prog X.w H' h') (hg : AllBare g')
    (hch : ∀ b ∈ ch, (b ∈ X.ex ∨ X.s₀.heap.objs.size ≤ b) ∧ b ≠ X.env.locals ∧ (∀ x c, X.env.cells.lookup x = some c → c ≠ b) ∧ ∀ p ∈ X.pn ++ pins, p.1 ≠ b) :
    Inv X pins σ H' { s with heap := h', gens := g', drawn := d', toks := t' } := by
  obtain ⟨m, ⟨o, es, ep, ho, r⟩, _⟩ := id I.loc
  obtain ⟨sl, hL⟩ := u.any ho I.free fun z => (hch _ z).2.1 rfl
  exact I.step (ch := ch) hch (fun b o hL hb hc e n => u.keep b o e n (fun z => (List.mem_cons.mp (I.stkSub b z)).elim hL hb) hc) (fun b o _ _ hc e n => u.any e n hc) (fun b o hc e n => u.free b o e n hc) (fun b o hc e => u.there b o e hc) u.tups u.frzs u.tbls (fun m' hm => by
    obtain ⟨o', es', ep', ho', r'⟩ := hm
    rw [ho] at ho'; cases ho'
    exact ⟨_, es', ep', hL, r'⟩) hok hg
theorem Inv.turned {t' : Nat} {it : Addr} (I : Inv X pins σ H s) (k : ∀ b o, b ≠ it → s.heap.get? b = some o → h'.get? b = some o) (hn : H it = none) (hL : it ≠ X.env.locals)
    (h1 : it ∈ X.ex ∨ X.s₀.heap.objs.size ≤ it) (h2 : ∀ x c, X.env.cells.lookup x = some c → c ≠ it) (h3 : ∀ p ∈ X.pn ++ pins, p.1 ≠ it) : Inv X pins σ H { s with heap := h', toks := t' } := by
  have nit : ∀ b u, H b = some u → b ≠ it := fun b u e z => by rw [z, hn] at e; cases e
  refine I.step (g' := s.gens) (d' := s.drawn) (ch := [it]) (fun b hb => ?_) (fun b o _ _ hc e _ => k b o (fun z => hc (by simp [z])) e) (fun b o _ _ hc e _ => ⟨o.slots, k b o (fun z => hc (by simp [z])) e⟩) (fun _ _ _ _ n => n)
    (fun b o hc e => ⟨o, k b o (fun z => hc (by simp [z])) e⟩) (fun _ _ e => e) (fun _ _ _ e => e) (fun _ _ e => e) (fun m hm => ?_) (fun b u e => ?_) I.bare
  · have e : b = it := by simpa using hb
    subst e
    exact ⟨h1, hL, h2, h3⟩
  · obtain ⟨o, es, ep, ho, r⟩ := hm
    exact ⟨o, es, ep, k _ o (Ne.symm hL) ho, r⟩
  · refine (I.hok b u e).stay (fun c v hc q => k c v ?_ q) (fun _ q => q) fun _ _ q => q
    rcases hc with z | z
    · rw [z]; exact nit b u e
    · exact nit c _ z
theorem Inv.tok (I : Inv X pins σ H s) (t : Nat) : Inv X pins σ H { s with toks := t } := I.un (h' := s.heap) (t' := t) Un.refl I.hok
theorem Inv.kept {t' : Nat} (I : Inv X pins σ H s) (k : ∀ b u, s.heap.get? b = some u → h'.get? b = some u) : Inv X pins σ H { s with heap := h', toks := t' } := I.un (Un.kept k) (I.hok.kept k)
theorem Inv.laid {a : Addr} {o : HO} {t' : Nat} (I : Inv X pins σ H s) (k : ∀ b u, s.heap.get? b = some u → h'.get? b = some u) (hp : s.heap.objs.size ≤ a) (new : ObjOk X.prog X.w (upd H a o) h' a o) :
    Inv X pins σ (upd H a o) { s with heap := h', toks := t' } := I.un (Un.laid k hp (I.hok.fresh hp)) (I.hok.laid k hp new)
theorem Inv.write {x e : Addr} {o : HO} {t' : Nat} (I : Inv X pins σ H s) (mu : Mut (H x)) (he : e = x ∨ H e = some (.own x)) (k : ∀ b u, b ≠ e → s.heap.get? b = some u → h'.get? b = some u) (heo : ∃ u, h'.get? e = some u)
    (new : ObjOk X.prog X.w (upd H x o) h' x o) : Inv X pins σ (upd H x o) { s with heap := h', toks := t' } := I.un (Un.write mu he k heo) (I.hok.write mu he k heo new)
theorem Inv.pins_of {pins' : List (Addr × Obj)} (I : Inv X pins σ H s) (h : ∀ p ∈ pins', s.heap.get? p.1 = some p.2 ∧ H p.1 = none ∧ p.1 ≠ X.env.locals ∧ p.1 ∉ X.fs ∧ ∀ v, p.2.data ≠ .cell v) : Inv X pins' σ H s :=
  ⟨I.ok, I.os, I.bare, I.base, I.loc, I.cell, I.free, I.freeC, fun p hp => (List.mem_append.mp hp).elim (fun z => I.pin p (List.mem_append_left _ z)) (h p), I.hok, I.len⟩
theorem nodup_ix {N : List Str} (hN : N.Nodup) {i j : Nat} {x : Str} (a : N[i]? = some x) (b : N[j]? = some x) : i = j := by
  obtain ⟨h1, e1⟩ := List.getElem?_eq_some_iff.mp a
  obtain ⟨h2, e2⟩ := List.getElem?_eq_some_iff.mp b
  exact (List.getElem_inj hN).mp (e1.trans e2.symm)
theorem store_ok2 {M : Model} {A : Around} {E : Value → Shared → Prop} {i : Nat} {x : Str} {v : V} {u : Value} {Q : Unit → Shared → Prop} (I : Inv X pins σ H s) (hN : X.N.Nodup) (hi : X.N[i]? = some x) (hx : Loc X.env.scope x) (r : RelV v u)
    (h : ∀ s', Inv X pins (σ.set i (some v)) H s' → (∃ a, Heap.SameBut a s.heap s'.heap ∧ (a = X.env.locals ∨ X.env.cells.lookup x = some a)) → Q () s') (hf : X.fn x = true ∨ X.env.scope.names.lookup x = some .local := by first | exact .inl rfl | exact .inr rfl | assumption) : wpAny M A (storeName X.env x u) Q E s := by
  obtain ⟨m, hn, hl⟩ := id I.loc
  have hcls : (X.env.scope.kind == .class || (X.env.scope.kind == .module && X.env.locals != X.env.globals)) = false := by rw [I.ok.kind]; rfl
  have hiσ : i < σ.length := by rw [I.len]; exact (List.getElem?_eq_some_iff.mp hi).1
  have cne := I.cne
  have tracked : ∀ {a : Addr} {h' : Heap}, (∃ o, s.heap.get? a = some o ∧ H a = none) → Heap.SameBut a s.heap h' → HOk X.prog X.w H h' := fun {a h'} ha hs b ob e => by
    obtain ⟨_, _, hfree⟩ := ha
    refine (I.hok b ob e).stay (fun c w' hc q => (hs.2 c ?_).trans q) (fun _ q => q) fun _ _ q => q
    rintro rfl
    rcases hc with rfl | hc
    · rw [hfree] at e; cases e
    · rw [hfree] at hc; cases hc
  rcases hx with hk | hk
  · refine wpAny_storeName_local hk hn (fun h' hn' hs => ?_) hcls
    obtain ⟨oL, _, _, hoL, _⟩ := id hn
    refine h _ ⟨I.ok, I.os, I.bare, ⟨fun b o e n hb hx => ?_, fun b o e n hb hx => ?_, I.base.free, fun b o e hx => ?_, I.base.tups, I.base.frzs, I.base.tbls⟩, ⟨_, hn', fun j y v' e1 e2 e3 => ?_⟩, fun y c e => ?_, I.free, I.freeC, fun p hp => ?_, tracked ⟨oL, hoL, I.free⟩ hs, by simpa using I.len⟩ ⟨_, hs, .inl rfl⟩
    · exact (hs.2 b (Nat.ne_of_lt (Nat.lt_of_lt_of_le (Heap.lt_size e) I.ok.above))).trans (I.base.keep b o e n hb hx)
    · obtain ⟨sl, e1⟩ := I.base.slot b o e n hb hx
      exact ⟨sl, (hs.2 b (Nat.ne_of_lt (Nat.lt_of_lt_of_le (Heap.lt_size e) I.ok.above))).trans e1⟩
    · obtain ⟨o', e1⟩ := I.base.there b o e hx
      exact ⟨o', (hs.2 b (Nat.ne_of_lt (Nat.lt_of_lt_of_le (Heap.lt_size e) I.ok.above))).trans e1⟩
    · by_cases hj : j = i
      · subst hj
        rw [hi] at e1; cases e1
        rw [List.getElem?_set_self hiσ] at e2
        cases e2
        exact ⟨u, r, .inl ⟨hk, by simp⟩⟩
      · rw [List.getElem?_set_ne (Ne.symm hj)] at e2
        obtain ⟨u', r', q⟩ := hl j y v' e1 e2 e3
        refine ⟨u', r', ?_⟩
        rcases q with ⟨k, e⟩ | ⟨k, c, e, z⟩
        · refine .inl ⟨k, ?_⟩
          have : y ≠ x := fun e => hj (nodup_ix hN e1 (e ▸ hi))
          simp [this, e]
        · exact .inr ⟨k, c, e, z.sameBut hs (cne y c e)⟩
    · obtain ⟨w', z⟩ := I.cell y c e
      exact ⟨w', z.sameBut hs (cne y c e)⟩
    · obtain ⟨e, n, ne, nf, d⟩ := I.pin p hp
      exact ⟨(hs.2 p.1 ne).trans e, n, ne, nf, d⟩
  · have hfn : X.fn x = true := by
      rcases hf with z | z
      · exact z
      · rw [z] at hk; cases hk
    obtain ⟨c, hc⟩ := I.ok.has x (.inl hk)
    obtain ⟨w', z⟩ := I.cell x c hc
    refine wpAny_storeName_cell I.ok.kind hk hc z (fun h' hc' hs => ?_)
    obtain ⟨oc, hoc, hocd⟩ := id z
    refine h { s with heap := h' } ⟨I.ok, I.os, I.bare, ⟨fun b o e n hb hx => ?_, fun b o e n hb hx => ?_, I.base.free, fun b o e hx => ?_, I.base.tups, I.base.frzs, I.base.tbls⟩, ⟨m, hn.sameBut hs (Ne.symm (cne x c hc)), fun j y v' e1 e2 e3 => ?_⟩, fun y c' e => ?_, I.free, I.freeC, fun p hp => ?_, tracked ⟨oc, hoc, I.freeC x c hc⟩ hs, by simpa using I.len⟩ ⟨c, hs, .inr hc⟩
    · exact (hs.2 b (Nat.ne_of_lt (Nat.lt_of_lt_of_le (Heap.lt_size e) (I.ok.cab x c hfn hc)))).trans (I.base.keep b o e n hb hx)
    · obtain ⟨sl, e1⟩ := I.base.slot b o e n hb hx
      exact ⟨sl, (hs.2 b (Nat.ne_of_lt (Nat.lt_of_lt_of_le (Heap.lt_size e) (I.ok.cab x c hfn hc)))).trans e1⟩
    · obtain ⟨o', e1⟩ := I.base.there b o e hx
      exact ⟨o', (hs.2 b (Nat.ne_of_lt (Nat.lt_of_lt_of_le (Heap.lt_size e) (I.ok.cab x c hfn hc)))).trans e1⟩
    · by_cases hj : j = i
      · subst hj
        rw [hi] at e1; cases e1
        rw [List.getElem?_set_self hiσ] at e2
        cases e2
        exact ⟨u, r, .inr ⟨.inl hk, c, hc, hc'⟩⟩
      · rw [List.getElem?_set_ne (Ne.symm hj)] at e2
        obtain ⟨u', r', q⟩ := hl j y v' e1 e2 e3
        refine ⟨u', r', ?_⟩
        rcases q with q | ⟨k, c', e, z'⟩
        · exact .inl q
        · refine .inr ⟨k, c', e, z'.sameBut hs ?_⟩
          rintro rfl
          exact hj (nodup_ix hN e1 (I.ok.inj _ _ _ e hc ▸ hi))
    · by_cases hcc : c' = c
      · subst hcc; exact ⟨_, hc'⟩
      · obtain ⟨w2, z2⟩ := I.cell y c' e
        exact ⟨w2, z2.sameBut hs hcc⟩
    · obtain ⟨e, n, ne, nf, d⟩ := I.pin p hp
      refine ⟨(hs.2 p.1 ?_).trans e, n, ne, nf, d⟩
      intro q
      rw [q, hoc] at e
      have q' : oc = p.2 := Option.some.inj e
      exact d w' (by rw [← q']; exact hocd)
theorem store_ok {M : Model} {A : Around} {E : Value → Shared → Prop} {i : Nat} {x : Str} {v : V} {u : Value} {Q : Unit → Shared → Prop} (I : Inv X pins σ H s) (hN : X.N.Nodup) (hi : X.N[i]? = some x) (hx : Loc X.env.scope x) (r : RelV v u)
    (h : ∀ s', Inv X pins (σ.set i (some v)) H s' → Q () s') (hf : X.fn x = true ∨ X.env.scope.names.lookup x = some .local := by first | exact .inl rfl | exact .inr rfl | assumption) : wpAny M A (storeName X.env x u) Q E s :=
  store_ok2 I hN hi hx r (fun s' I' _ => h s' I') hf
theorem Inv.call' {s' : Shared} {ch : List Addr} (I : Inv X pins σ H s) (ho : s'.os = s.os) (u : Un (frs X.stack) ch H H' s.heap s'.heap) (hok : HOk X.prog X.w H' s'.heap) (hg : AllBare s'.gens)
    (hch : ∀ b ∈ ch, (b ∈ X.ex ∨ X.s₀.heap.objs.size ≤ b) ∧ b ≠ X.env.locals ∧ (∀ x c, X.env.cells.lookup x = some c → c ≠ b) ∧ ∀ p ∈ X.pn ++ pins, p.1 ≠ b) : Inv X pins σ H' s' := by
  obtain ⟨h', g', d', t', o'⟩ := s'
  have e : o' = s.os := ho
  subst e
  exact I.call (g' := g') (t' := t') (d' := d') u hok hg hch
end
noncomputable abbrev XK := Value → Option Addr → Hp → Prop
noncomputable abbrev St := List (Option V)
noncomputable abbrev VK := V → Hp → Prop
noncomputable abbrev TE := St → Hp → VK → Prop
noncomputable abbrev TT := St → Hp → (Bool → Hp → Prop) → Prop
noncomputable abbrev TA := St → Hp → (List V → Hp → Prop) → Prop
structure Ends where
  nx : St → Hp → Prop
  rt : VK
  bk : St → Hp → Prop := fun _ _ => False
  ct : St → Hp → Prop := fun _ _ => False
noncomputable abbrev TS := Ends → St → Hp → Prop
noncomputable def EP (X : Cx) (pins : List (Addr × Obj)) (σ : St) (Q : VK) (u : Value) (s' : Shared) : Prop := ∃ v H', Inv X pins σ H' s' ∧ RelV v u ∧ Q v H'
noncomputable def TP (X : Cx) (pins : List (Addr × Obj)) (σ : St) (Q : Bool → Hp → Prop) (b : Bool) (s' : Shared) : Prop := ∃ H', Inv X pins σ H' s' ∧ Q b H'
noncomputable def AP (X : Cx) (pins : List (Addr × Obj)) (σ : St) (Q : List V → Hp → Prop) (us : List Value) (s' : Shared) : Prop := ∃ vs H', Inv X pins σ H' s' ∧ Vals vs us ∧ Q vs H'
noncomputable def SP (X : Cx) (pins : List (Addr × Obj)) (D : Ends) (f : Flow) (s' : Shared) : Prop :=
  match f with
  | .next => ∃ σ' H', Inv X pins σ' H' s' ∧ D.nx σ' H'
  | .brk => ∃ σ' H', Inv X pins σ' H' s' ∧ D.bk σ' H'
  | .cont => ∃ σ' H', Inv X pins σ' H' s' ∧ D.ct σ' H'
  | .ret u => ∃ v σ' H', Inv X pins σ' H' s' ∧ RelV v u ∧ D.rt v H'
noncomputable def PE (X : Cx) (e : Expr) (t : TE) : Prop :=
  ∀ (pins : List (Addr × Obj)) (s : Shared) (σ : St) (H : Hp) (Q : VK), Inv X pins σ H s → t σ H Q → wpAny (model X.prog X.w) X.A (eval e X.env) (EP X pins σ Q) X.xe s
noncomputable def PT (X : Cx) (e : Expr) (t : TT) : Prop :=
  ∀ (pins : List (Addr × Obj)) (s : Shared) (σ : St) (H : Hp) (Q : Bool → Hp → Prop), Inv X pins σ H s → t σ H Q → wpAny (model X.prog X.w) X.A (isTrue e X.env (eval e X.env)) (TP X pins σ Q) X.xe s
noncomputable def PW (X : Cx) (e : Expr) (t : TT) : Prop :=
  ∀ (whole : Sem Value) (pins : List (Addr × Obj)) (s : Shared) (σ : St) (H : Hp) (Q : Bool → Hp → Prop), Inv X pins σ H s → t σ H Q → wpAny (model X.prog X.w) X.A (isTrue e X.env whole) (TP X pins σ Q) X.xe s
theorem PW.pt {X : Cx} {e : Expr} {t : TT} (h : PW X e t) : PT X e t := h _
noncomputable def PA (X : Cx) (es : List Expr) (t : TA) : Prop :=
  ∀ (pos : Pos) (pins : List (Addr × Obj)) (s : Shared) (σ : St) (H : Hp) (Q : List V → Hp → Prop), Inv X pins σ H s → t σ H Q → wpAny (model X.prog X.w) X.A (spliced (backTo pos (starEach es X.env))) (AP X pins σ Q) X.xe s
noncomputable def PS (X : Cx) (st : Stmt) (t : TS) : Prop :=
  ∀ (pins : List (Addr × Obj)) (s : Shared) (σ : St) (H : Hp) (D : Ends), Inv X pins σ H s → t D σ H → wpAny (model X.prog X.w) X.A (exec st X.env) (SP X pins D) X.xe s
noncomputable def PSs (X : Cx) (st : List Stmt) (t : TS) : Prop :=
  ∀ (pins : List (Addr × Obj)) (s : Shared) (σ : St) (H : Hp) (D : Ends), Inv X pins σ H s → t D σ H → wpAny (model X.prog X.w) X.A (execs st X.env) (SP X pins D) X.xe s
theorem thn {α : Type} {t : Sem α} {Q Q' : α → Shared → Prop} {M : Model} {A : Around} {E : Value → Shared → Prop} {s : Shared} (h : wpAny M A t Q E s) (hQ : ∀ a s, Q a s → Q' a s) : wpAny M A t Q' E s := wpAny_mono h hQ fun _ _ x => x
end L2
namespace L2
open PySem PySem.Spec PyProof.Rows
section
variable {X : Cx}
noncomputable def tVar (i : Nat) : TE := fun σ H Q => ∃ v, σ[i]? = some (some v) ∧ Q v H
noncomputable def tC (v : V) : TE := fun _ H Q => Q v H
theorem pe_var {i : Nat} {x : Str} {pos : Pos} (hN : X.N[i]? = some x) (hv : Vis X.env.scope x) (hd : (x == ("__debug__" : Str)) = false := by decide) (hcd : (x == ("__classdict__" : Str)) = false := by decide) : PE X (.Name x pos) (tVar i) := by
  intro pins s σ H Q I h
  obtain ⟨v, e, h⟩ := h
  obtain ⟨m, hn, hl⟩ := I.loc
  obtain ⟨u, r, l⟩ := hl i x v hN e hv
  have fin : EP X pins σ Q u s := ⟨v, H, I, r, h⟩
  rcases l with ⟨hk, hm⟩ | ⟨hk, c, hc, hcell⟩
  · exact wpAny_Name (wpAny_loadName_local I.ok.kind hk hn hm fin) hd
  · rcases hk with hk | hk
    · exact wpAny_Name (wpAny_loadName_cell I.ok.kind hk hc hcell fin) hd
    · exact wpAny_Name (wpAny_loadName_free I.ok.kind hk hc hcell fin hcd) hd
theorem pe_int {i j pos} : PE X (.Constant (.int i) j pos) (tC (.int i)) := fun _ _ _ H _ I h => wpAny_Constant_int ⟨.int i, H, I.tok _, ⟨_, rfl⟩, h⟩
theorem pe_bl {b j pos} : PE X (.Constant (.bool b) j pos) (tC (.bl b)) := fun _ _ _ H _ I h => Constant_bool ⟨.bl b, H, I, rfl, h⟩
theorem pe_str {x j pos} : PE X (.Constant (.str x) j pos) (tC (.str x)) := fun _ _ _ H _ I h => Calls.Constant_str ⟨.str x, H, I.tok _, ⟨_, rfl⟩, h⟩
noncomputable def Gl (X : Cx) (x : Str) : Prop := X.env.kindOf x = some .globalImplicit
theorem ld_glob {E : Value → Shared → Prop} {pins : List (Addr × Obj)} {s : Shared} {σ : St} {H : Hp} {x : Str} {u : Value} {pos : Pos} {Q : Value → Shared → Prop} (I : Inv X pins σ H s) (hg : Gl X x) (hm : X.mg x = some u) (h : Q u s)
    (hd : (x == ("__debug__" : Str)) = false := by decide) : wpAny (model X.prog X.w) X.A (eval (.Name x pos) X.env) Q E s :=
  Calls.Name_function_global I.ok.kind hg (Calls.loadGlobal_global (by rw [I.ok.glob]; exact I.mod.glob.keeps I.bk) hm h) hd
theorem ld_blt {E : Value → Shared → Prop} {pins : List (Addr × Obj)} {s : Shared} {σ : St} {H : Hp} {x : Str} {u : Value} {pos : Pos} {Q : Value → Shared → Prop} (I : Inv X pins σ H s) (hg : Gl X x) (hm : X.mg x = none) (hv : bootBuiltins x = some u) (h : Q u s)
    (hn : x ≠ "__name__" := by decide) (hd : (x == ("__debug__" : Str)) = false := by decide) : wpAny (model X.prog X.w) X.A (eval (.Name x pos) X.env) Q E s := by
  obtain ⟨mb, h1, h2⟩ := I.mod.blt
  exact Calls.Name_function_global I.ok.kind hg (Calls.loadGlobal_builtin (by rw [I.ok.glob]; exact I.mod.glob.keeps I.bk) hm (by rw [I.ok.blt]; exact h1.keeps I.bk) ((h2 x hn).trans hv) h) hd
theorem pe_glob {x : Str} {v : V} {u : Value} {pos : Pos} (hg : Gl X x) (hm : X.mg x = some u) (r : RelV v u) (hd : (x == ("__debug__" : Str)) = false := by decide) : PE X (.Name x pos) (tC v) :=
  fun _ _ _ H _ I h => ld_glob I hg hm ⟨v, H, I, r, h⟩ hd
theorem pe_bltn {x : Str} {v : V} {u : Value} {pos : Pos} (hg : Gl X x) (hm : X.mg x = none) (hv : bootBuiltins x = some u) (r : RelV v u) (hn : x ≠ "__name__" := by decide) (hd : (x == ("__debug__" : Str)) = false := by decide) : PE X (.Name x pos) (tC v) :=
  fun _ _ _ H _ I h => ld_blt I hg hm hv ⟨v, H, I, r, h⟩ hn hd
variable {a b : Expr} {ta tb : TE} {pos : Pos}
variable {tA tB' : TT} {rest : List Expr}
noncomputable def tAnd (t u : TT) : TT := fun σ H Q => t σ H fun c H1 => if c = true then u σ H1 Q else Q false H1
noncomputable def tOr (t u : TT) : TT := fun σ H Q => t σ H fun c H1 => if c = true then Q true H1 else u σ H1 Q
noncomputable def tNot (t : TT) : TT := fun σ H Q => t σ H fun c H1 => Q (!c) H1
theorem pw_and1 (ha : PT X a tA) : PW X (.BoolOp .And [a] pos) tA := by
  intro wh pins s σ H Q I h
  refine isTrue_and (thn (ha pins s σ H Q I h) fun c s1 e => ?_)
  cases c with
  | true => exact isTrue_and_nil e
  | false => exact e
theorem pw_or1 (ha : PT X a tA) : PW X (.BoolOp .Or [a] pos) tA := by
  intro wh pins s σ H Q I h
  refine isTrue_or (thn (ha pins s σ H Q I h) fun c s1 e => ?_)
  cases c with
  | false => exact isTrue_or_nil e
  | true => exact e
theorem pw_and (ha : PT X a tA) (hb : PW X (.BoolOp .And (b :: rest) pos) tB') : PW X (.BoolOp .And (a :: b :: rest) pos) (tAnd tA tB') := by
  intro wh pins s σ H Q I h
  refine isTrue_and (thn (ha pins s σ H _ I h) fun c s1 ⟨H1, I1, q1⟩ => ?_)
  cases c with
  | true => exact hb wh pins s1 σ H1 Q I1 q1
  | false => exact ⟨H1, I1, q1⟩
theorem pw_or (ha : PT X a tA) (hb : PW X (.BoolOp .Or (b :: rest) pos) tB') : PW X (.BoolOp .Or (a :: b :: rest) pos) (tOr tA tB') := by
  intro wh pins s σ H Q I h
  refine isTrue_or (thn (ha pins s σ H _ I h) fun c s1 ⟨H1, I1, q1⟩ => ?_)
  cases c with
  | true => exact ⟨H1, I1, q1⟩
  | false => exact hb wh pins s1 σ H1 Q I1 q1
theorem pt_not (ha : PT X a tA) : PT X (.UnaryOp .Not a pos) (tNot tA) := by
  intro pins s σ H Q I h
  exact isTrue_not (ha pins s σ H (fun c H1 => Q (!c) H1) I h)
noncomputable def tAndV (ta tb : TE) : TE := fun σ H Q => ta σ H fun x H1 => ∃ c, x = .bl c ∧ if c = true then tb σ H1 Q else Q (.bl false) H1
theorem pe_one {op} {t : TE} (h : PE X a t) : PE X (.BoolOp op [a] pos) t := fun pins s σ H Q I hw => BoolOp_one (h pins s σ H Q I hw)
theorem pe_and (ha : PE X a ta) (hb : PE X (.BoolOp .And (b :: rest) pos) tb) : PE X (.BoolOp .And (a :: b :: rest) pos) (tAndV ta tb) := by
  intro pins s σ H Q I h
  refine BoolOp_and (thn (ha pins s σ H _ I h) fun v s1 ⟨x, H1, I1, r1, q1⟩ => ?_)
  obtain ⟨c, rfl, q1⟩ := q1
  cases r1
  refine wpAny_truthy_bool ?_
  cases c with
  | true => exact hb pins s1 σ H1 Q I1 q1
  | false => exact ⟨.bl false, H1, I1, rfl, q1⟩
end
end L2
namespace L2
open PySem PySem.Spec PyProof.Rows
noncomputable def SqL (K : PySem.W.Frag) (H : Hp) (a : Addr) (xs : List V) : Prop :=
  Rd H a (.lst xs) ∨
    ∃ (o : Obj) (its : Array Value) (n : Nat), K.lookup a = some o ∧ o.cls = .type "list" ∧ o.dict = none ∧ o.data = .seq its n ∧ its.size ≤ sizeLine ∧ Vals xs its.toList
noncomputable def SqT (K : PySem.W.Frag) (H : Hp) (a : Addr) (xs : List V) : Prop :=
  Rd H a (.tup xs) ∨
    ∃ (o : Obj) (its : Array Value) (n : Nat), K.lookup a = some o ∧ o.cls = .type "tuple" ∧ o.data = .seq its n ∧ its.size ≤ sizeLine ∧ Vals xs its.toList
noncomputable def absV : Value → Option V
  | .none => some .non
  | .bool b => some (.bl b)
  | .int i _ => some (.int i)
  | .str x _ => some (.str x)
  | .bytes b _ => some (.byt b)
  | .float b _ => some (.flt b)
  | .ref a => some (.ref a)
  | .type n => some (.ty n)
  | _ => none
theorem RelV.abs {x : V} {u : Value} (r : RelV x u) : absV u = some x := by
  cases x with
  | non => cases r; rfl
  | bl _ => cases r; rfl
  | int _ => obtain ⟨t, rfl⟩ := r; rfl
  | str _ => obtain ⟨t, rfl⟩ := r; rfl
  | byt _ => obtain ⟨t, rfl⟩ := r; rfl
  | flt _ => obtain ⟨t, rfl⟩ := r; rfl
  | ref _ => cases r; rfl
  | ty _ => cases r; rfl
theorem RelV.inj {x y : V} {u : Value} (r : RelV x u) (q : RelV y u) : x = y := Option.some.inj (r.abs.symm.trans q.abs)
theorem Vals.inj : ∀ {xs ys : List V} {us : List Value}, Vals xs us → Vals ys us → xs = ys
  | _, _, _, .nil, .nil => rfl
  | _, _, _, .cons r t, .cons r' t' => by rw [r.inj r', Vals.inj t t']
section
variable {X : Cx} {pins : List (Addr × Obj)} {σ : St} {H : Hp} {s : Shared} {a : Addr} {xs ys : List V}
theorem SqL.of {K : PySem.W.Frag} (h : H a = some (.lst xs)) : SqL K H a xs := .inl (.inl h)
theorem SqT.of {K : PySem.W.Frag} (h : H a = some (.tup xs)) : SqT K H a xs := .inl (.inl h)
theorem Inv.list (I : Inv X pins σ H s) (h : SqL X.K H a xs) : ∃ its : List Value, Vals xs its ∧ PlainL s.heap a its.toArray ∧ xs.length ≤ sizeLine := by
  rcases h with h | ⟨o, its, n, hk, hc, hd, hs, hz, r⟩
  · obtain ⟨z, its, n, r, e⟩ := h.ok I.hok
    exact ⟨its, r, ⟨_, n, e, rfl, rfl, rfl⟩, z⟩
  · refine ⟨its.toList, r, ⟨o, n, I.kIn a o hk, hc, hd, by simpa using hs⟩, ?_⟩
    have e := r.length
    simp only [Array.length_toList] at e
    omega
theorem Inv.tuple (I : Inv X pins σ H s) (h : SqT X.K H a xs) : ∃ its : List Value, Vals xs its ∧ IsTup s.heap a its.toArray ∧ xs.length ≤ sizeLine := by
  rcases h with h | ⟨o, its, n, hk, hc, hs, hz, r⟩
  · obtain ⟨z, its, r, p⟩ := h.ok I.hok
    exact ⟨its, r, p, z⟩
  · refine ⟨its.toList, r, ⟨o, I.kIn a o hk, hc, n, by simpa using hs⟩, ?_⟩
    have e := r.length
    simp only [Array.length_toList] at e
    omega
theorem Inv.list_inj (I : Inv X pins σ H s) (h : SqL X.K H a xs) (h' : SqL X.K H a ys) : xs = ys := by
  obtain ⟨its, r, ⟨o, n, e, _, _, d⟩, _⟩ := I.list h
  obtain ⟨its', r', ⟨o', n', e', _, _, d'⟩, _⟩ := I.list h'
  rw [e] at e'; cases e'
  rw [d] at d'
  injection d' with d1 _
  have : its = its' := by simpa using congrArg Array.toList d1
  subst this
  exact r.inj r'
theorem Inv.tuple_inj (I : Inv X pins σ H s) (h : SqT X.K H a xs) (h' : SqT X.K H a ys) : xs = ys := by
  obtain ⟨its, r, ⟨o, e, _, n, d⟩, _⟩ := I.tuple h
  obtain ⟨its', r', ⟨o', e', _, n', d'⟩, _⟩ := I.tuple h'
  rw [e] at e'; cases e'
  rw [d] at d'
  injection d' with d1 _
  have : its = its' := by simpa using congrArg Array.toList d1
  subst this
  exact r.inj r'
end
noncomputable abbrev Cx.wish (X : Cx) (E : Value → Shared → Prop) : Cx := { X with xe := E }
noncomputable abbrev Cx.nox (X : Cx) : Cx := X.wish fun _ _ => False
theorem Cx.Ok.wish {X : Cx} (ok : X.Ok) (E : Value → Shared → Prop) : (X.wish E).Ok :=
  ⟨ok.mod, ok.kind, ok.glob, ok.blt, ok.above, ok.inj, ok.has, ok.cab, ok.hd, ok.frames, ok.stk, ok.exf, ok.bs, ok.bsz, ok.noex, ok.exfs, ok.funs, ok.frf, ok.tab⟩
theorem Cx.Ok.unwish {X : Cx} {E : Value → Shared → Prop} (ok : (X.wish E).Ok) : X.Ok :=
  ⟨ok.mod, ok.kind, ok.glob, ok.blt, ok.above, ok.inj, ok.has, ok.cab, ok.hd, ok.frames, ok.stk, ok.exf, ok.bs, ok.bsz, ok.noex, ok.exfs, ok.funs, ok.frf, ok.tab⟩
section
variable {X : Cx} {pins : List (Addr × Obj)} {σ : St} {H : Hp} {s : Shared} {E : Value → Shared → Prop}
theorem Inv.wish (I : Inv X pins σ H s) (E : Value → Shared → Prop) : Inv (X.wish E) pins σ H s := ⟨I.ok.wish E, I.os, I.bare, I.base, I.loc, I.cell, I.free, I.freeC, I.pin, I.hok, I.len⟩
theorem Inv.unwish (I : Inv (X.wish E) pins σ H s) : Inv X pins σ H s := ⟨I.ok.unwish, I.os, I.bare, I.base, I.loc, I.cell, I.free, I.freeC, I.pin, I.hok, I.len⟩
theorem SP.unwish {D : Ends} {f : Flow} {s' : Shared} (h : SP (X.wish E) pins D f s') : SP X pins D f s' := by
  cases f with
  | next => obtain ⟨σ', H', I, q⟩ := h; exact ⟨σ', H', I.unwish, q⟩
  | brk => obtain ⟨σ', H', I, q⟩ := h; exact ⟨σ', H', I.unwish, q⟩
  | cont => obtain ⟨σ', H', I, q⟩ := h; exact ⟨σ', H', I.unwish, q⟩
  | ret u => obtain ⟨v, σ', H', I, r, q⟩ := h; exact ⟨v, σ', H', I.unwish, r, q⟩
theorem PE.nox {e : Expr} {t : TE} (h : PE X.nox e t) : PE X e t := fun pins s σ H Q I hw =>
  wpAny_mono (h pins s σ H Q (I.wish _) hw) (fun _ _ ⟨v, H', I', r, q⟩ => ⟨v, H', I'.unwish, r, q⟩) fun _ _ z => False.elim z
theorem PT.nox {e : Expr} {t : TT} (h : PT X.nox e t) : PT X e t := fun pins s σ H Q I hw =>
  wpAny_mono (h pins s σ H Q (I.wish _) hw) (fun _ _ ⟨H', I', q⟩ => ⟨H', I'.unwish, q⟩) fun _ _ z => False.elim z
theorem PSs.nox {st : List Stmt} {t : TS} (h : PSs X.nox st t) : PSs X st t := fun pins s σ H D I hw =>
  wpAny_mono (h pins s σ H D (I.wish _) hw) (fun _ _ q => q.unwish) fun _ _ z => False.elim z
end
section
variable {X : Cx} {st : Stmt} {rest : List Stmt} {t u : TS} {e : Expr} {te : TE} {pos : Pos}
noncomputable def tNext : TS := fun D σ H => D.nx σ H
noncomputable def tSeq (t u : TS) : TS := fun D σ H => t { D with nx := u D } σ H
theorem pss_nil : PSs X [] tNext := fun _ _ σ H _ I h => wpAny_execs_nil ⟨σ, H, I, h⟩
theorem pss_cons (h1 : PS X st t) (h2 : PSs X rest u) : PSs X (st :: rest) (tSeq t u) := by
  intro pins s σ H D I h
  refine wpAny_execs_cons (thn (h1 pins s σ H { D with nx := u D } I h) fun f s1 q => ?_)
  cases f with
  | next =>
    obtain ⟨σ', H', I', q⟩ := q
    exact h2 pins s1 σ' H' D I' q
  | ret v => exact q
  | brk => exact q
  | cont => exact q
theorem pss_one (h1 : PS X st t) : PSs X [st] t := by
  intro pins s σ H D I h
  refine wpAny_execs_cons (thn (h1 pins s σ H D I h) fun f s1 q => ?_)
  cases f with
  | next => exact wpAny_execs_nil q
  | ret v => exact q
  | brk => exact q
  | cont => exact q
theorem Inv.quiet {pins : List (Addr × Obj)} {σ : St} {H : Hp} {s : Shared} (I : Inv X pins σ H s) : interactive X.env = false := by simp [interactive, I.ok.kind]
noncomputable def tDrop (te : TE) : TS := fun D σ H => te σ H fun _ H1 => D.nx σ H1
theorem ps_expr (he : PE X e te) (hs : swapsWith e none pos.line X.env = pure false := by rfl) : PS X (.Expr e pos) (tDrop te) := by
  intro pins s σ H D I h
  exact wpAny_Expr_any (thn (he pins s σ H _ I h) fun v s1 ⟨x, H1, I1, r1, q1⟩ => ⟨σ, H1, I1, q1⟩) I.quiet hs
noncomputable def tRet (te : TE) : TS := fun D σ H => te σ H D.rt
theorem ps_ret (he : PE X e te) : PS X (.Return (some e) pos) (tRet te) := by
  intro pins s σ H D I h
  exact wpAny_Return_some (thn (he pins s σ H _ I h) fun v s1 ⟨x, H1, I1, r1, q1⟩ => ⟨x, σ, H1, I1, r1, q1⟩)
noncomputable def tIfS (c : TT) (t u : TS) : TS := fun D σ H => c σ H fun b H1 => if b = true then t D σ H1 else u D σ H1
theorem ps_if {c : Expr} {a b : List Stmt} {tc : TT} (hc : PT X c tc) (ha : PSs X a t) (hb : PSs X b u) : PS X (.If c a b pos) (tIfS tc t u) := by
  intro pins s σ H D I h
  refine wpAny_If (thn (hc pins s σ H _ I h) fun d s1 ⟨H1, I1, q1⟩ => ?_)
  cases d with
  | true => exact ha pins s1 σ H1 D I1 q1
  | false => exact hb pins s1 σ H1 D I1 q1
noncomputable def tNever : TS := fun _ _ _ => False
theorem ps_never : PS X st tNever := fun _ _ _ _ _ _ h => h.elim
end
noncomputable abbrev TG := V → St → Hp → (St → Hp → Prop) → Prop
noncomputable abbrev TGs := List V → St → Hp → (St → Hp → Prop) → Prop
noncomputable def PG (X : Cx) (target : Expr) (t : TG) : Prop :=
  ∀ (pins : List (Addr × Obj)) (s : Shared) (σ : St) (H : Hp) (v : V) (u : Value) (Q : St → Hp → Prop), Inv X pins σ H s → RelV v u → t v σ H Q →
    wpAny (model X.prog X.w) X.A (assign target X.env u) (fun _ s' => ∃ σ' H', Inv X pins σ' H' s' ∧ Q σ' H') X.xe s
noncomputable def PGs (X : Cx) (ts : List Expr) (t : TGs) : Prop :=
  ∀ (pins : List (Addr × Obj)) (s : Shared) (σ : St) (H : Hp) (vs : List V) (us : List Value) (Q : St → Hp → Prop), Inv X pins σ H s → Vals vs us → t vs σ H Q →
    wpAny (model X.prog X.w) X.A (assignInOrder ((assignEach ts X.env).map (·.2)) us) (fun _ s' => ∃ σ' H', Inv X pins σ' H' s' ∧ Q σ' H') X.xe s
section
variable {X : Cx} {pos : Pos}
noncomputable def gName (i : Nat) : TG := fun v σ H Q => Q (σ.set i (some v)) H
theorem pg_name {i : Nat} {x : Str} (hN : X.N.Nodup) (hi : X.N[i]? = some x) (hx : Loc X.env.scope x) (hf : X.fn x = true ∨ X.env.scope.names.lookup x = some .local := by first | exact .inl rfl | exact .inr rfl | assumption) : PG X (.Name x pos) (gName i) := by
  intro pins s σ H v u Q I r h
  exact wpAny_assign_Name (store_ok I hN hi hx r (fun s' I' => ⟨_, H, I', h⟩) hf)
noncomputable def gNil : TGs := fun vs σ H Q => vs = [] ∧ Q σ H
noncomputable def gCons (t : TG) (u : TGs) : TGs := fun vs σ H Q => ∃ v r, vs = v :: r ∧ t v σ H fun σ' H' => u r σ' H' Q
theorem pgs_nil : PGs X [] gNil := by
  intro pins s σ H vs us Q I r h
  obtain ⟨e, h⟩ := h
  subst e
  cases r
  exact assignInOrder_nil ⟨σ, H, I, h⟩
theorem pgs_cons {e : Expr} {es : List Expr} {t : TG} {u : TGs} (h1 : PG X e t) (h2 : PGs X es u)
    (hs : (assignEach (e :: es) X.env).map (·.2) = assign e X.env :: (assignEach es X.env).map (·.2) := by rfl) : PGs X (e :: es) (gCons t u) := by
  intro pins s σ H vs us Q I r h
  obtain ⟨v, vr, e1, h⟩ := h
  subst e1
  cases r with
  | cons r rr =>
    rw [hs]
    refine assignInOrder_cons (thn (h1 pins s σ H _ _ _ I r h) fun _ s1 ⟨σ1, H1, I1, q1⟩ => ?_)
    exact h2 pins s1 σ1 H1 _ _ Q I1 rr q1
noncomputable def gTup (K : PySem.W.Frag) (n : Nat) (t : TGs) : TG := fun v σ H Q => ∃ a xs, v = .ref a ∧ SqT K H a xs ∧ xs.length = n ∧ t xs σ H Q
theorem pg_tup {es : List Expr} {k : Nat} {t : TGs} {n : Nat} (hc : X.calm = true) (h : PGs X es t)
    (hn : (assignEach es X.env).length = n := by rfl) (hst : (assignEach es X.env).findIdx? (·.1) = none := by rfl) : PG X (.Tuple es k pos) (gTup X.K n t) := by
  intro pins s σ H v u Q I r hw
  obtain ⟨a, xs, e1, hq, hl, hw⟩ := hw
  subst e1
  cases r
  obtain ⟨its, rv, ht, hz⟩ := I.tuple hq
  refine assign_Tuple_tuple (I.ok.hd hc) ht (by simp [hn, ← hl, rv.length]) hst fun h' hx => ?_
  have I1 : Inv X pins σ H { s with heap := h' } := I.kept (t' := s.toks) fun b o e => hx b o (Nat.ne_of_lt (Heap.lt_size e)) e
  exact h pins _ σ H xs _ Q I1 (by simpa using rv) hw
noncomputable def tAsg (te : TE) (g : TG) : TS := fun D σ H => te σ H fun x H1 => g x σ H1 D.nx
theorem ps_set {i : Nat} {x : Str} {e : Expr} {te : TE} {pos' : Pos} (hN : X.N.Nodup) (hi : X.N[i]? = some x) (hx : Loc X.env.scope x) (he : PE X e te) (hs : swapsWith e (some (.Name x pos')) pos.line X.env = pure false := by rfl) (hf : X.fn x = true ∨ X.env.scope.names.lookup x = some .local := by first | exact .inl rfl | exact .inr rfl | assumption) :
    PS X (.Assign [.Name x pos'] e pos) (tAsg te (gName i)) := by
  intro pins s σ H D I h
  refine wpAny_Assign_Name (thn (he pins s σ H _ I h) fun v s1 ⟨y, H1, I1, r1, q1⟩ => ?_) hs
  exact store_ok I1 hN hi hx r1 (fun s2 I2 => ⟨_, H1, I2, q1⟩) hf
end
structure It where
  go : Nat → Hp → Prop
  yld : Nat → Hp → V → Hp → Prop
  stop : Nat → Hp → Prop
noncomputable def FpOk (X : Cx) (pins : List (Addr × Obj)) (H : Hp) (b : Addr) : Prop :=
  H b = none ∧ b ≠ X.env.locals ∧ b ∉ X.fs ∧ (b ∈ X.ex ∨ X.s₀.heap.objs.size ≤ b) ∧ (∀ x c, X.env.cells.lookup x = some c → c ≠ b) ∧ ∀ p ∈ X.pn ++ pins, p.1 ≠ b
theorem Inv.fpOk {X : Cx} {pins : List (Addr × Obj)} {σ : St} {H H' : Hp} {s : Shared} {b : Addr} (I : Inv X pins σ H s) (hb : s.heap.objs.size ≤ b) (hn : H' b = none) : FpOk X pins H' b := by
  refine ⟨hn, Nat.ne_of_gt (Nat.lt_of_lt_of_le I.lt hb), I.nofs hb, .inr (Nat.le_trans I.sz hb), fun x c e z => ?_, fun p hp z => ?_⟩
  · obtain ⟨v, q⟩ := I.cell x c e
    exact absurd (Nat.lt_of_lt_of_le q.lt (by rw [z]; exact hb)) (Nat.lt_irrefl _)
  · exact absurd (Nat.lt_of_lt_of_le (Heap.lt_size (I.pin p hp).1) (by rw [z]; exact hb)) (Nat.lt_irrefl _)
structure Turn (P : Program) (w : World) (K : PySem.W.Frag) (tg : Expr) (J : It) (fp : List Addr) (it : Addr) (tn : Nat → Heap → Prop) : Prop where
  mem : it ∈ fp
  obj : ∀ i h, tn i h → ∀ b ∈ fp, ∃ o, h.get? b = some o ∧ ∀ v, o.data ≠ .cell v
  keep : ∀ i h h', tn i h → (∀ b ∈ fp, ∀ o, h.get? b = some o → h'.get? b = some o) → tn i h'
  item : ∀ (X : Cx), X.prog = P → X.w = w → X.K = K → X.calm = true → ∀ (i : Nat) (pins : List (Addr × Obj)) (s : Shared) (σ : St) (H : Hp) (E : Value → Shared → Prop), Inv X pins σ H s → (∀ b ∈ fp, FpOk X pins H b) → tn i s.heap → J.go i H →
    wpAny (model P w) X.A (pyNext (.ref it)) (fun r s1 => ∃ u, r = some u ∧
      wpAny (model P w) X.A (letOwnedTupleGo tg (.ref it) u) (fun _ s2 => ∃ x H', Inv X pins σ H' s2 ∧ RelV x u ∧ J.yld i H x H' ∧ tn (i + 1) s2.heap ∧ ∀ b ∈ fp, H' b = none) E s1) E s
  done : ∀ (X : Cx), X.prog = P → X.w = w → X.K = K → X.calm = true → ∀ (i : Nat) (pins : List (Addr × Obj)) (s : Shared) (σ : St) (H : Hp) (E : Value → Shared → Prop), Inv X pins σ H s → (∀ b ∈ fp, FpOk X pins H b) → tn i s.heap → J.stop i H →
    wpAny (model P w) X.A (pyNext (.ref it)) (fun r s1 => r = none ∧ Inv X pins σ H s1) E s
  self : ∀ (A : Around) (i : Nat) (s : Shared) (Q : Value → Shared → Prop) (E : Value → Shared → Prop), tn i s.heap → Q (.ref it) s → wpAny (model P w) A (pyIter (.ref it)) Q E s
noncomputable abbrev TI := St → Hp → (It → Hp → Prop) → Prop
noncomputable def PIE (X : Cx) (pins : List (Addr × Obj)) (σ : St) (tg : Expr) (R : It → Hp → Prop) (itv : Value) (s2 : Shared) : Prop :=
  ∃ (it : Addr) (fp : List Addr) (tn : Nat → Heap → Prop) (J : It) (H' : Hp), itv = .ref it ∧ Inv X pins σ H' s2 ∧ Turn X.prog X.w X.K tg J fp it tn ∧ tn 0 s2.heap ∧ (∀ b ∈ fp, FpOk X pins H' b) ∧ R J H'
noncomputable def PI (X : Cx) (tg iter : Expr) (wi : TI) : Prop :=
  ∀ (pins : List (Addr × Obj)) (s : Shared) (σ : St) (H : Hp) (R : It → Hp → Prop), Inv X pins σ H s → wi σ H R →
    wpAny (model X.prog X.w) X.A (eval iter X.env) (fun v s1 => wpAny (model X.prog X.w) X.A (pyIter v) (PIE X pins σ tg R) X.xe s1) X.xe s
theorem go_of {M : Model} {A : Around} {E : Value → Shared → Prop} {s : Shared} {tg : Expr} {it : Addr} {u : Value} {o : Obj} {n : String} {vs : Array Value} {Q : Unit → Shared → Prop} (ho : s.heap.get? it = some o) (hc : o.cls = .type n) (hd : o.data = .fields vs)
    (hn : ["enumerate", "zip", "dict_itemiterator", "dict_reverseitemiterator", "odict_iterator", "itertools.zip_longest", "itertools.pairwise"].contains n = false) (hQ : Q () s) : wpAny M A (letOwnedTupleGo tg (.ref it) u) Q E s := by
  unfold letOwnedTupleGo
  cases tg <;> first
    | exact wpAny_pure hQ
    | (cases u <;> first
        | exact wpAny_pure hQ
        | (refine wpAny_bind (wpAny_load ho ?_)
           rw [hc, hd]
           show wpAny M A (if (["enumerate", "zip", "dict_itemiterator", "dict_reverseitemiterator", "odict_iterator", "itertools.zip_longest", "itertools.pairwise"].contains n && vs[0]? == some (rawInt _)) = true then _ else _) Q E s
           rw [if_neg (by intro h; rw [hn, Bool.false_and] at h; cases h)]
           exact wpAny_pure hQ))
noncomputable def Itl (K : PySem.W.Frag) (a : Addr) : It :=
  ⟨fun i H => ∃ xs x, SqL K H a xs ∧ xs[i]? = some x, fun i H x H' => H' = H ∧ ∀ xs, SqL K H a xs → xs[i]? = some x, fun i H => ∃ xs, SqL K H a xs ∧ xs.length ≤ i⟩
noncomputable def Itt (K : PySem.W.Frag) (a : Addr) : It :=
  ⟨fun i H => ∃ xs x, SqT K H a xs ∧ xs[i]? = some x, fun i H x H' => H' = H ∧ ∀ xs, SqT K H a xs → xs[i]? = some x, fun i H => ∃ xs, SqT K H a xs ∧ xs.length ≤ i⟩
noncomputable def Itr (lo : Int) (n : Nat) : It := ⟨fun i _ => i < n, fun i H x H' => H' = H ∧ x = .int (lo + i), fun i _ => n ≤ i⟩
theorem turn_list {P : Program} {w : World} {K : PySem.W.Frag} {tg : Expr} (a it : Addr) : Turn P w K tg (Itl K a) [it] it (fun i h => h.IsListIter it a i) where
  mem := by simp
  obj := fun i h st b hb => by
    have e : b = it := by simpa using hb
    subst e
    obtain ⟨o, e, c, d⟩ := st
    exact ⟨o, e, fun v z => by rw [d] at z; cases z⟩
  keep := fun i h h' st k => st.at fun o e => k it (by simp) o e
  item := by
    intro X hP hw hK hc i pins s σ H E I hf st hg
    subst hP hw hK
    obtain ⟨xs, x, hq, hx⟩ := hg
    obtain ⟨its, rv, p, hz⟩ := I.list hq
    obtain ⟨u, hu, ru⟩ := rv.get hx
    obtain ⟨f0, f1, f2, f3, f4, f5⟩ := hf it (by simp)
    refine wpAny_pyNext_list_item st p.isList (x := u) (by simpa using hu) fun h' st' sb => ?_
    have I1 : Inv X pins σ H { s with heap := h' } := I.turned (t' := s.toks) (fun b o hb e => (sb.2 b hb).trans e) f0 f1 f3 f4 f5
    obtain ⟨o, e, c, d⟩ := id st'
    exact ⟨u, rfl, go_of (s := { s with heap := h' }) e c d (by decide) ⟨x, H, I1, ru, ⟨rfl, fun ys hy => by rw [I.list_inj hy hq]; exact hx⟩, st', fun b hb => (hf b hb).1⟩⟩
  done := by
    intro X hP hw hK hc i pins s σ H E I hf st hg
    subst hP hw hK
    obtain ⟨xs, hq, hx⟩ := hg
    obtain ⟨its, rv, p, hz⟩ := I.list hq
    obtain ⟨f0, f1, f2, f3, f4, f5⟩ := hf it (by simp)
    have hl := rv.length
    exact wpAny_pyNext_list_end (I.ok.hd hc) st p.isList (by simp; omega) fun h' eb => ⟨rfl, I.turned (t' := s.toks) (fun b o hb e => eb b o hb e) f0 f1 f3 f4 f5⟩
  self := fun _ _ _ _ _ st h => wpAny_pyIter_listiter st h
theorem turn_tuple {P : Program} {w : World} {K : PySem.W.Frag} {tg : Expr} (a it : Addr) : Turn P w K tg (Itt K a) [it] it (fun i h => h.IsTupleIter it a i) where
  mem := by simp
  obj := fun i h st b hb => by
    have e : b = it := by simpa using hb
    subst e
    obtain ⟨o, e, c, d⟩ := st
    exact ⟨o, e, fun v z => by rw [d] at z; cases z⟩
  keep := fun i h h' st k => st.at fun o e => k it (by simp) o e
  item := by
    intro X hP hw hK hc i pins s σ H E I hf st hg
    subst hP hw hK
    obtain ⟨xs, x, hq, hx⟩ := hg
    obtain ⟨its, rv, p, hz⟩ := I.tuple hq
    obtain ⟨u, hu, ru⟩ := rv.get hx
    obtain ⟨f0, f1, f2, f3, f4, f5⟩ := hf it (by simp)
    refine wpAny_pyNext_tuple_item st (show s.heap.IsTuple a its.toArray from p) (x := u) (by simpa using hu) fun h' st' sb => ?_
    have I1 : Inv X pins σ H { s with heap := h' } := I.turned (t' := s.toks) (fun b o hb e => (sb.2 b hb).trans e) f0 f1 f3 f4 f5
    obtain ⟨o, e, c, d⟩ := id st'
    exact ⟨u, rfl, go_of (s := { s with heap := h' }) e c d (by decide) ⟨x, H, I1, ru, ⟨rfl, fun ys hy => by rw [I.tuple_inj hy hq]; exact hx⟩, st', fun b hb => (hf b hb).1⟩⟩
  done := by
    intro X hP hw hK hc i pins s σ H E I hf st hg
    subst hP hw hK
    obtain ⟨xs, hq, hx⟩ := hg
    obtain ⟨its, rv, p, hz⟩ := I.tuple hq
    obtain ⟨f0, f1, f2, f3, f4, f5⟩ := hf it (by simp)
    have hl := rv.length
    exact wpAny_pyNext_tuple_end (I.ok.hd hc) st (show s.heap.IsTuple a its.toArray from p) (by simp; omega) fun h' eb => ⟨rfl, I.turned (t' := s.toks) (fun b o hb e => eb b o hb e) f0 f1 f3 f4 f5⟩
  self := fun _ _ _ _ _ st h => wpAny_pyIter_tupleiter st h
theorem turn_range {P : Program} {w : World} {K : PySem.W.Frag} {tg : Expr} (it : Addr) (lo : Int) (n : Nat) : Turn P w K tg (Itr lo n) [it] it (fun i h => IsRangeIter h it (lo + (i : Nat) * 1) ((n : Int) - (i : Nat)) 1) where
  mem := by simp
  obj := fun i h st b hb => by
    have e : b = it := by simpa using hb
    subst e
    exact ⟨_, st, fun v z => by
      have z' : Data.fields _ = Data.cell v := z
      cases z'⟩
  keep := fun i h h' st k => k it (by simp) _ st
  item := by
    intro X hP hw hK hc i pins s σ H E I hf st hg
    subst hP hw hK
    obtain ⟨f0, f1, f2, f3, f4, f5⟩ := hf it (by simp)
    have W := Walks.range (prog := X.prog) (w := X.w) (I.ok.hd hc) it lo 1 n
    refine W.item i s _ _ hg st fun v h' tk hv st' kk => ?_
    obtain ⟨t, rfl⟩ := hv
    have I1 : Inv X pins σ H { s with heap := h', toks := tk } := I.turned (fun b o hb e => kk b o (by simpa using hb) e) f0 f1 f3 f4 f5
    refine ⟨_, rfl, go_of (s := { s with heap := h', toks := tk }) (n := "range_iterator") st' rfl rfl (by decide) ⟨.int (lo + i), H, I1, ⟨t, ?_⟩, ⟨rfl, rfl⟩, st', fun b hb => (hf b hb).1⟩⟩
    rw [Int.mul_one]
  done := by
    intro X hP hw hK hc i pins s σ H E I hf st hg
    subst hP hw hK
    obtain ⟨f0, f1, f2, f3, f4, f5⟩ := hf it (by simp)
    exact wpAny_pyNext_range_end (I.ok.hd hc) st (by have : n ≤ i := hg; omega) fun h' eb => ⟨rfl, I.turned (t' := s.toks) (fun b o hb e => eb b o hb e) f0 f1 f3 f4 f5⟩
  self := fun _ _ _ _ _ st h => wpAny_pyIter_rangeiter st h
end L2
namespace L2
open PySem PySem.Spec PyProof.Rows
section
variable {X : Cx} {tg : Expr}
noncomputable def iList (K : PySem.W.Frag) (tl : TE) : TI := fun σ H R => tl σ H fun x H1 => ∃ a, x = .ref a ∧ (∃ xs, SqL K H1 a xs) ∧ R (Itl K a) H1
noncomputable def iTup (K : PySem.W.Frag) (tl : TE) : TI := fun σ H R => tl σ H fun x H1 => ∃ a, x = .ref a ∧ (∃ xs, SqT K H1 a xs) ∧ R (Itt K a) H1
theorem pi_list {l : Expr} {tl : TE} (hl : PE X l tl) : PI X tg l (iList X.K tl) := by
  intro pins s σ H R I h
  refine thn (hl pins s σ H _ I h) fun v s1 ⟨x, H1, I1, r1, q1⟩ => ?_
  obtain ⟨a, e, ⟨xs, hq⟩, q⟩ := q1
  subst e
  cases r1
  obtain ⟨its, rv, p, hz⟩ := I1.list hq
  refine wpAny_pyIter_list p.isList ?_
  refine ⟨s1.heap.objs.size, [s1.heap.objs.size], _, _, H1, rfl, I1.kept (t' := s1.toks) fun b o e => Heap.get?_push_of_some _ e, turn_list a _, ⟨_, Heap.get?_push_size _ rfl, rfl, rfl⟩, fun b hb => ?_, q⟩
  have e : b = s1.heap.objs.size := by simpa using hb
  subst e
  exact I1.fpOk (Nat.le_refl _) (I1.hok.fresh (Nat.le_refl _))
theorem pi_tup {l : Expr} {tl : TE} (hl : PE X l tl) : PI X tg l (iTup X.K tl) := by
  intro pins s σ H R I h
  refine thn (hl pins s σ H _ I h) fun v s1 ⟨x, H1, I1, r1, q1⟩ => ?_
  obtain ⟨a, e, ⟨xs, hq⟩, q⟩ := q1
  subst e
  cases r1
  obtain ⟨its, rv, p, hz⟩ := I1.tuple hq
  refine wpAny_pyIter_tuple (show s1.heap.IsTuple a its.toArray from p) ?_
  refine ⟨s1.heap.objs.size, [s1.heap.objs.size], _, _, H1, rfl, I1.kept (t' := s1.toks) fun b o e => Heap.get?_push_of_some _ e, turn_tuple a _, ⟨_, Heap.get?_push_size _ rfl, rfl, rfl⟩, fun b hb => ?_, q⟩
  have e : b = s1.heap.objs.size := by simpa using hb
  subst e
  exact I1.fpOk (Nat.le_refl _) (I1.hok.fresh (Nat.le_refl _))
theorem range_it {pins : List (Addr × Obj)} {σ : St} {H : Hp} {s : Shared} {R : It → Hp → Prop} {E : Value → Shared → Prop} {lo hi : Int} {t u v : Tok} {tk : Nat} (I : Inv X pins σ H s) (h1 : -(2 ^ 62) ≤ lo) (h2 : lo < 2 ^ 62) (h3 : -(2 ^ 62) ≤ hi) (h4 : hi < 2 ^ 62)
    (q : R (Itr lo (hi - lo).toNat) H) : wpAny (model X.prog X.w) X.A (pyIter (.ref s.heap.objs.size)) (PIE X pins σ tg R) E { s with heap := s.heap.push { cls := .type "range", data := .fields #[.int lo t, .int hi u, .int 1 v] }, toks := tk } := by
  refine wpAny_pyIter_range (IsRange.new ..) (small_one h1 h2 h3 h4) ?_
  have I1 : Inv X pins σ H { s with heap := s.heap.push { cls := .type "range", data := .fields #[.int lo t, .int hi u, .int 1 v] }, toks := tk } := I.kept fun b o e => Heap.get?_push_of_some _ e
  refine ⟨(s.heap.push { cls := .type "range", data := .fields #[.int lo t, .int hi u, .int 1 v] }).objs.size, [(s.heap.push { cls := .type "range", data := .fields #[.int lo t, .int hi u, .int 1 v] }).objs.size], _, _, H, rfl,
    I1.kept (t' := tk) fun b o e => Heap.get?_push_of_some _ e, turn_range _ lo (hi - lo).toNat, ?_, fun b hb => ?_, q⟩
  · have e1 : lo + ((0 : Nat) : Int) * 1 = lo := by simp
    have e2 : (((hi - lo).toNat : Nat) : Int) - ((0 : Nat) : Int) = Builtin.Range.rangeSize lo hi 1 := by rw [rangeSize_one]; split <;> omega
    show IsRangeIter _ _ (lo + ((0 : Nat) : Int) * 1) ((((hi - lo).toNat : Nat) : Int) - ((0 : Nat) : Int)) 1
    rw [e1, e2]
    exact Heap.get?_push_size _ rfl
  · have e : b = (s.heap.push { cls := .type "range", data := .fields #[.int lo t, .int hi u, .int 1 v] }).objs.size := by simpa using hb
    subst e
    exact I1.fpOk (Nat.le_refl _) (I1.hok.fresh (Nat.le_refl _))
noncomputable def iRng1 (ta : TA) : TI := fun σ H R => ta σ H fun vs H1 => ∃ j : Int, vs = [.int j] ∧ -(2 ^ 62) ≤ j ∧ j < 2 ^ 62 ∧ R (Itr 0 j.toNat) H1
theorem pi_range1 {a : Expr} {ta : TA} {p pos : Pos} (hg : Gl X "range") (hm : X.mg "range" = none) (ha : PA X [a] ta) (hs : starEach [a] X.env = [(false, eval a X.env)] := by rfl) : PI X tg (.Call (.Name "range" p) [a] [] pos) (iRng1 ta) := by
  intro pins s σ H R I h
  refine Call_ (ld_blt I hg hm boot_range (PyProof.Rows.callWith_type1 (thn (ha pos pins s σ H _ I h) fun us s1 ⟨vs, H1, I1, r1, q1⟩ => ?_) hs rfl))
  obtain ⟨j, e, q1, q2, q⟩ := q1
  subst e
  cases r1 with
  | cons r rr =>
    cases rr
    obtain ⟨t, rfl⟩ := r
    exact call_range_1 (range_it I1 (by omega) (by omega) q1 q2 (by simpa using q))
noncomputable def tFor (wi : TI) (g : TG) (tb : TS) : TS := fun D σ H => wi σ H fun J H1 => ∃ W : Nat → Nat → St → Hp → Prop, (∃ m, W 0 m σ H1) ∧ ∀ i m σ H, W i m σ H →
  (J.stop i H ∧ D.nx σ H) ∨ (J.go i H ∧ ∃ N : St → Hp → Prop, (∀ σ' H', N σ' H' → ∃ m', m' < m ∧ W (i + 1) m' σ' H') ∧ ∀ x H', J.yld i H x H' → g x σ H' fun σ2 H2 => tb { D with nx := N, ct := N, bk := D.nx } σ2 H2)
noncomputable def pinsAt (fp : List Addr) (h : Heap) : List (Addr × Obj) := fp.filterMap fun b => (h.get? b).map fun o => (b, o)
theorem mem_pinsAt {fp : List Addr} {h : Heap} {b : Addr} {o : Obj} (hb : b ∈ fp) (e : h.get? b = some o) : (b, o) ∈ pinsAt fp h := List.mem_filterMap.mpr ⟨b, hb, by rw [e]; rfl⟩
theorem of_pinsAt {fp : List Addr} {h : Heap} {p : Addr × Obj} (hp : p ∈ pinsAt fp h) : p.1 ∈ fp ∧ h.get? p.1 = some p.2 := by
  obtain ⟨b, hb, e⟩ := List.mem_filterMap.mp hp
  cases q : h.get? b with
  | none => rw [q] at e; cases e
  | some o =>
    rw [q] at e
    have e' : (b, o) = p := Option.some.inj e
    subst e'
    exact ⟨hb, q⟩
theorem Inv.pinned {pins : List (Addr × Obj)} {σ : St} {H : Hp} {s : Shared} {fp : List Addr} (I : Inv X pins σ H s) (hf : ∀ b ∈ fp, FpOk X pins H b) (ho : ∀ b ∈ fp, ∃ o, s.heap.get? b = some o ∧ ∀ v, o.data ≠ .cell v) : Inv X (pins ++ pinsAt fp s.heap) σ H s :=
  I.pins_of fun p hp => (List.mem_append.mp hp).elim (fun z => I.pin p (List.mem_append_right _ z)) fun z => by
    obtain ⟨hb, e⟩ := of_pinsAt z
    obtain ⟨f0, f1, f2, _⟩ := hf p.1 hb
    obtain ⟨o, e', d⟩ := ho p.1 hb
    rw [e] at e'; cases e'
    exact ⟨e, f0, f1, f2, d⟩
theorem Inv.unpinned {pins pl : List (Addr × Obj)} {σ : St} {H : Hp} {s : Shared} (I : Inv X (pins ++ pl) σ H s) : Inv X pins σ H s := I.pins_of fun p hp => I.pin p (List.mem_append_right _ (List.mem_append_left _ hp))
theorem ps_for {iter : Expr} {body : List Stmt} {wi : TI} {g : TG} {tb : TS} {pos : Pos} (hp : PassesOwn (model X.prog X.w) X.A X.env X.xe) (hc : X.calm = true) (hi : PI X tg iter wi) (hg : PG X tg g) (hb : PSs X body tb)
    (hs : ∀ x, foldedSetIterable iter X.env x = pure x := by intro _; rfl) : PS X (.For tg iter body [] pos) (tFor wi g tb) := by
  intro pins s σ H D I h
  refine wpAny_For (thn (hi pins s σ H _ I h) fun v s1 h1 => thn h1 fun itv s2 h2 => ?_) hs
  obtain ⟨it, fp, tn, J, H2, e, I2, T, st2, f2, W, ⟨m0, w0⟩, turn⟩ := h2
  subst e
  -- what stays true of the iterator's objects through the loop
  have stat : ∀ {H' : Hp}, (∀ b ∈ fp, H' b = none) → ∀ b ∈ fp, FpOk X pins H' b := fun hn b hb => ⟨hn b hb, (f2 b hb).2⟩
  refine codeAny_forLoop_any (fun n s' => ∃ i σ' H', Inv X pins σ' H' s' ∧ tn i s'.heap ∧ (∀ b ∈ fp, H' b = none) ∧ W i n σ' H') ?_ m0 ⟨0, σ, H2, I2, st2, fun b hb => (f2 b hb).1, w0⟩
  rintro n s3 ⟨i, σ3, H3, I3, st3, fr3, w3⟩
  rcases turn i n σ3 H3 w3 with ⟨stop, qn⟩ | ⟨go, N, hN, step⟩
  · refine wpAny_passesOwn hp (thn (T.done X rfl rfl rfl hc i pins s3 σ3 H3 X.xe I3 (stat fr3) st3 stop) fun r s4 ⟨hr, I4⟩ => ?_)
    subst hr
    exact wpAny_execs_nil ⟨σ3, H3, I4, qn⟩
  · refine wpAny_passesOwn hp (thn (T.item X rfl rfl rfl hc i pins s3 σ3 H3 X.xe I3 (stat fr3) st3 go) fun r s4 ⟨u, hr, h4⟩ => ?_)
    subst hr
    refine wpAny_passesOwn hp (thn h4 fun _ s5 ⟨x, H5, I5, r5, y5, st5, fr5⟩ => ?_)
    have I5' := I5.pinned (stat fr5) (T.obj _ _ st5)
    refine wpAny_passesOwn hp (thn (hg _ s5 σ3 H5 x u _ I5' r5 (step x H5 y5)) fun _ s6 ⟨σ6, H6, I6, q6⟩ => ?_)
    refine wpAny_passesOwn hp (thn (hb _ s6 σ6 H6 _ I6 q6) fun f s7 q7 => ?_)
    have again : ∀ {σ7 : St} {H7 : Hp}, Inv X (pins ++ pinsAt fp s5.heap) σ7 H7 s7 → N σ7 H7 → ∃ m, m < n ∧ ∃ i σ' H', Inv X pins σ' H' s7 ∧ tn i s7.heap ∧ (∀ b ∈ fp, H' b = none) ∧ W i m σ' H' := fun {σ7 H7} I7 n7 => by
      obtain ⟨m', hm, w7⟩ := hN σ7 H7 n7
      refine ⟨m', hm, i + 1, σ7, H7, I7.unpinned, T.keep _ _ _ st5 fun b hb o e => (I7.pin (b, o) (List.mem_append_right _ (List.mem_append_right _ (mem_pinsAt hb e)))).1, fun b hb => ?_, w7⟩
      obtain ⟨o, e, d⟩ := T.obj _ _ st5 b hb
      exact (I7.pin (b, o) (List.mem_append_right _ (List.mem_append_right _ (mem_pinsAt hb e)))).2.1
    cases f with
    | next => obtain ⟨σ7, H7, I7, n7⟩ := q7; exact again I7 n7
    | cont => obtain ⟨σ7, H7, I7, n7⟩ := q7; exact again I7 n7
    | brk => obtain ⟨σ7, H7, I7, q7⟩ := q7; exact ⟨σ7, H7, I7.unpinned, q7⟩
    | ret v => obtain ⟨x7, σ7, H7, I7, r7, q7⟩ := q7; exact ⟨x7, σ7, H7, I7.unpinned, r7, q7⟩
end
end L2
namespace L2
open PySem PySem.Spec PyProof.Rows
noncomputable abbrev R2 := V → V → Hp → VK → Prop
noncomputable def OpR (X : Cx) (f : Value → Value → Sem Value) (r : R2) : Prop :=
  ∀ (pins : List (Addr × Obj)) (s : Shared) (σ : St) (H : Hp) (x y : V) (v u : Value) (Q : VK), Inv X pins σ H s → RelV x v → RelV y u → r x y H Q →
    wpAny (model X.prog X.w) X.A (f v u) (EP X pins σ Q) X.xe s
noncomputable def UnR (X : Cx) (f : Value → Sem Value) (r : V → Hp → VK → Prop) : Prop :=
  ∀ (pins : List (Addr × Obj)) (s : Shared) (σ : St) (H : Hp) (x : V) (v : Value) (Q : VK), Inv X pins σ H s → RelV x v → r x H Q →
    wpAny (model X.prog X.w) X.A (f v) (EP X pins σ Q) X.xe s
noncomputable def CallR (X : Cx) (f : Value) (r : List V → Hp → VK → Prop) : Prop :=
  ∀ (pins : List (Addr × Obj)) (s : Shared) (σ : St) (H : Hp) (xs : List V) (us : List Value) (Q : VK), Inv X pins σ H s → Vals xs us → r xs H Q →
    wpAny (model X.prog X.w) X.A (call f us) (EP X pins σ Q) X.xe s
noncomputable def TruR (X : Cx) (r : V → Hp → (Bool → Hp → Prop) → Prop) : Prop :=
  ∀ (pins : List (Addr × Obj)) (s : Shared) (σ : St) (H : Hp) (x : V) (v : Value) (Q : Bool → Hp → Prop), Inv X pins σ H s → RelV x v → r x H Q →
    wpAny (model X.prog X.w) X.A (truthy v) (TP X pins σ Q) X.xe s
noncomputable def tOp (r : R2) (ta tb : TE) : TE := fun σ H Q => ta σ H fun x H1 => tb σ H1 fun y H2 => r x y H2 Q
noncomputable def tUn (r : V → Hp → VK → Prop) (ta : TE) : TE := fun σ H Q => ta σ H fun x H1 => r x H1 Q
noncomputable def rI (C : Int → Int → Prop) (g : Int → Int → V) : R2 := fun x y H Q => ∃ i j, x = .int i ∧ y = .int j ∧ C i j ∧ Q (g i j) H
noncomputable def rI0 (g : Int → Int → V) : R2 := fun x y H Q => ∃ i j, x = .int i ∧ y = .int j ∧ Q (g i j) H
noncomputable def rU (g : Int → V) : V → Hp → VK → Prop := fun x H Q => ∃ i, x = .int i ∧ Q (g i) H
section
variable {X : Cx} {a b c : Expr} {ta tb tc : TE} {pos : Pos}
theorem binT (ha : PE X a ta) (hb : PE X b tb) {pins : List (Addr × Obj)} {s : Shared} {σ : St} {H : Hp} {R : V → V → Hp → Prop} (I : Inv X pins σ H s)
    (h : ta σ H fun x H1 => tb σ H1 fun y H2 => R x y H2) {Q : Value → Shared → Prop} {f : Value → Value → Sem Value}
    (hf : ∀ v u s2 x y H2, Inv X pins σ H2 s2 → RelV x v → RelV y u → R x y H2 → wpAny (model X.prog X.w) X.A (f v u) Q X.xe s2) :
    wpAny (model X.prog X.w) X.A (eval a X.env) (fun v s₁ => wpAny (model X.prog X.w) X.A (eval b X.env) (fun u s₂ => wpAny (model X.prog X.w) X.A (f v u) Q X.xe s₂) X.xe s₁) X.xe s := by
  refine thn (ha pins s σ H _ I h) fun v s1 ⟨x, H1, I1, r1, q1⟩ => ?_
  refine thn (hb pins s1 σ H1 _ I1 q1) fun u s2 ⟨y, H2, I2, r2, q2⟩ => ?_
  exact hf v u s2 x y H2 I2 r1 r2 q2
theorem pe_op {op : Operator} {r : R2} (ho : OpR X (binaryOp op) r) (ha : PE X a ta) (hb : PE X b tb) : PE X (.BinOp a op b pos) (tOp r ta tb) := by
  intro pins s σ H Q I h
  exact wpAny_BinOp (binT ha hb I h fun v u s2 x y H2 I2 rx ry q => ho pins s2 σ H2 x y v u Q I2 rx ry q)
theorem pe_un {op : UnaryOp} {r : V → Hp → VK → Prop} (ho : UnR X (unaryOp op) r) (ha : PE X a ta) : PE X (.UnaryOp op a pos) (tUn r ta) := by
  intro pins s σ H Q I h
  exact UnaryOp_ (thn (ha pins s σ H _ I h) fun v s1 ⟨x, H1, I1, r1, q1⟩ => ho pins s1 σ H1 x v Q I1 r1 q1)
theorem opI {f : Value → Value → Sem Value} {C : Int → Int → Prop} {g : Int → Int → Int}
    (rule : ∀ (i j : Int) (t u : Tok) (s : Shared) (Q : Value → Shared → Prop) (E : Value → Shared → Prop), C i j → Q (.int (g i j) s.toks) { s with toks := s.toks + 1 } → wpAny (model X.prog X.w) X.A (f (.int i t) (.int j u)) Q E s) :
    OpR X f (rI C fun i j => .int (g i j)) := by
  intro pins s σ H x y v u Q I rx ry h
  obtain ⟨i, j, rfl, rfl, hc, q⟩ := h
  obtain ⟨t, rfl⟩ := rx
  obtain ⟨t', rfl⟩ := ry
  exact rule i j t t' s _ _ hc ⟨.int (g i j), H, I.tok _, ⟨_, rfl⟩, q⟩
theorem opI0 {f : Value → Value → Sem Value} {g : Int → Int → Int}
    (rule : ∀ (i j : Int) (t u : Tok) (s : Shared) (Q : Value → Shared → Prop) (E : Value → Shared → Prop), Q (.int (g i j) s.toks) { s with toks := s.toks + 1 } → wpAny (model X.prog X.w) X.A (f (.int i t) (.int j u)) Q E s) :
    OpR X f (rI0 fun i j => .int (g i j)) := by
  intro pins s σ H x y v u Q I rx ry h
  obtain ⟨i, j, rfl, rfl, q⟩ := h
  obtain ⟨t, rfl⟩ := rx
  obtain ⟨t', rfl⟩ := ry
  exact rule i j t t' s _ _ ⟨.int (g i j), H, I.tok _, ⟨_, rfl⟩, q⟩
theorem opB0 {f : Value → Value → Sem Value} {g : Int → Int → Bool}
    (rule : ∀ (i j : Int) (t u : Tok) (s : Shared) (Q : Value → Shared → Prop) (E : Value → Shared → Prop), Q (.bool (g i j)) s → wpAny (model X.prog X.w) X.A (f (.int i t) (.int j u)) Q E s) :
    OpR X f (rI0 fun i j => .bl (g i j)) := by
  intro pins s σ H x y v u Q I rx ry h
  obtain ⟨i, j, rfl, rfl, q⟩ := h
  obtain ⟨t, rfl⟩ := rx
  obtain ⟨t', rfl⟩ := ry
  exact rule i j t t' s _ _ ⟨.bl (g i j), H, I, rfl, q⟩
noncomputable def CPow (i j : Int) : Prop := 0 ≤ j ∧ j ≤ 1000000 ∧ i.natAbs < 2 ^ 64
noncomputable def CMul (i j : Int) : Prop := (-(2 ^ 64) < i ∧ i < 2 ^ 64) ∨ (-(2 ^ 64) < j ∧ j < 2 ^ 64)
theorem CMul.ok {i j : Int} (h : CMul i j) : IntMulOk i j := by
  rcases h with ⟨h1, h2⟩ | ⟨h1, h2⟩
  · exact .of_left (intBits_le_64 h1 h2)
  · exact .of_right (intBits_le_64 h1 h2)
theorem two_pow_nn (k : Nat) : (0 : Int) ≤ 2 ^ k := by
  rw [two_pow_cast]
  exact Int.natCast_nonneg _
theorem op_add : OpR X (binaryOp .Add) (rI0 fun i j => .int (i + j)) := opI0 fun _ _ _ _ _ _ _ q => add_int q
theorem op_sub : OpR X (binaryOp .Sub) (rI0 fun i j => .int (i - j)) := opI0 fun _ _ _ _ _ _ _ q => sub_int q
theorem op_mod : OpR X (binaryOp .Mod) (rI (fun _ j => 0 < j) fun i j => .int (i % j)) := opI fun i j _ _ _ _ _ hc q => by
  have h1 : (0 : Int) < j := hc
  exact mod_int' (by omega) (by rw [Int.fmod_eq_emod_of_nonneg i (by omega)]; exact q)
theorem op_pow : OpR X (binaryOp .Pow) (rI CPow fun i j => .int (i ^ j.toNat)) := opI fun _ _ _ _ _ _ _ hc q => pow_int_small hc.1 hc.2.1 hc.2.2 q
theorem op_shl : OpR X (binaryOp .LShift) (rI CPow fun i j => .int (i * 2 ^ j.toNat)) := opI fun _ _ _ _ _ _ _ hc q => lshift_int_small hc.1 hc.2.1 hc.2.2 q
theorem op_shr : OpR X (binaryOp .RShift) (rI (fun _ j => 0 ≤ j) fun i j => .int (i / 2 ^ j.toNat)) := opI fun i j _ _ _ _ _ hc q =>
  rshift_int hc (by rw [Int.fdiv_eq_ediv_of_nonneg i (two_pow_nn _)]; exact q)
theorem op_and : OpR X (binaryOp .BitAnd) (rI0 fun i j => .int (Builtin.bitAnd i j)) := opI0 fun _ _ _ _ _ _ _ q => and_int q
theorem unI {f : Value → Sem Value} {g : Int → Int}
    (rule : ∀ (i : Int) (t : Tok) (s : Shared) (Q : Value → Shared → Prop) (E : Value → Shared → Prop), Q (.int (g i) s.toks) { s with toks := s.toks + 1 } → wpAny (model X.prog X.w) X.A (f (.int i t)) Q E s) :
    UnR X f (rU fun i => .int (g i)) := by
  intro pins s σ H x v Q I rx h
  obtain ⟨i, rfl, q⟩ := h
  obtain ⟨t, rfl⟩ := rx
  exact rule i t s _ _ ⟨.int (g i), H, I.tok _, ⟨_, rfl⟩, q⟩
theorem un_neg : UnR X (unaryOp .USub) (rU fun i => .int (-i)) := unI fun _ _ _ _ _ q => neg_int q
end
noncomputable def scal : V → V → Bool
  | .non, .non => true | .non, .int _ => true | .int _, .non => true | .non, .bl _ => true | .bl _, .non => true | .non, .str _ => true | .str _, .non => true
  | .int _, .int _ => true | .bl _, .bl _ => true | .str _, .str _ => true | .byt _, .byt _ => true
  | .int _, .str _ => true | .str _, .int _ => true | .bl _, .str _ => true | .str _, .bl _ => true
  | _, _ => false
noncomputable def rEq : R2 := fun x y H Q => scal x y = true ∧ Q (.bl (decide (x = y))) H
noncomputable def rNe : R2 := fun x y H Q => scal x y = true ∧ Q (.bl (!decide (x = y))) H
theorem dec_int {i j : Int} : decide (V.int i = V.int j) = (i == j) := by
  rw [Bool.eq_iff_iff]
  simp
theorem dec_bl {i j : Bool} : decide (V.bl i = V.bl j) = (i == j) := by
  rw [Bool.eq_iff_iff]
  simp
theorem dec_str {i j : Str} : decide (V.str i = V.str j) = (i == j) := by
  rw [Bool.eq_iff_iff]
  simp
theorem dec_byt {i j : Array UInt8} : decide (V.byt i = V.byt j) = (i.toList == j.toList) := by
  rw [Bool.eq_iff_iff]
  cases i
  cases j
  simp
section
variable {X : Cx} {a b c : Expr} {ta tb tc : TE} {pos : Pos}
theorem fin_bl {pins : List (Addr × Obj)} {σ : St} {H : Hp} {s : Shared} {Q : VK} {k k' : Bool} (I : Inv X pins σ H s) (q : Q (.bl k) H) (e : k = k') : EP X pins σ Q (.bool k') s := by
  subst e
  exact ⟨.bl k, H, I, rfl, q⟩
theorem op_eq : OpR X (compareOp .Eq) rEq := by
  intro pins s σ H x y v u Q I rx ry h
  obtain ⟨hs, q⟩ := h
  cases x with
  | non =>
    cases rx
    cases y with
    | non => cases ry; exact PySem.EqNone.eq_none_none (fin_bl I q (by simp))
    | bl j => cases ry; exact PySem.EqNone.eq_none_bool (fin_bl I q (by simp))
    | int j => obtain ⟨t', rfl⟩ := ry; exact PySem.EqNone.eq_none_int (fin_bl I q (by simp))
    | str j => obtain ⟨t', rfl⟩ := ry; exact PySem.EqNone.eq_none_str (fin_bl I q (by simp))
    | _ => exact absurd (show false = true from hs) Bool.false_ne_true
  | bl i =>
    cases rx
    cases y with
    | non => cases ry; exact PySem.EqNone.eq_bool_none (fin_bl I q (by simp))
    | bl j => cases ry; exact eq_bool (fin_bl I q dec_bl)
    | str j => obtain ⟨t', rfl⟩ := ry; exact PySem.EqMixed.eq_bool_str (fin_bl I q (by simp))
    | _ => exact absurd (show false = true from hs) Bool.false_ne_true
  | int i =>
    obtain ⟨t, rfl⟩ := rx
    cases y with
    | non => cases ry; exact PySem.EqNone.eq_int_none (fin_bl I q (by simp))
    | int j => obtain ⟨t', rfl⟩ := ry; exact eq_int (fin_bl I q dec_int)
    | str j => obtain ⟨t', rfl⟩ := ry; exact PySem.EqMixed.eq_int_str (fin_bl I q (by simp))
    | _ => exact absurd (show false = true from hs) Bool.false_ne_true
  | str i =>
    obtain ⟨t, rfl⟩ := rx
    cases y with
    | non => cases ry; exact PySem.EqNone.eq_str_none (fin_bl I q (by simp))
    | bl j => cases ry; exact PySem.EqMixed.eq_str_bool (fin_bl I q (by simp))
    | int j => obtain ⟨t', rfl⟩ := ry; exact PySem.EqMixed.eq_str_int (fin_bl I q (by simp))
    | str j => obtain ⟨t', rfl⟩ := ry; exact eq_str (fin_bl I q dec_str)
    | _ => exact absurd (show false = true from hs) Bool.false_ne_true
  | byt i =>
    obtain ⟨t, rfl⟩ := rx
    cases y with
    | byt j => obtain ⟨t', rfl⟩ := ry; exact PySem.W.eq_bytes (fin_bl I q dec_byt)
    | _ => exact absurd (show false = true from hs) Bool.false_ne_true
  | _ => cases y <;> exact absurd (show false = true from hs) Bool.false_ne_true
theorem op_ne : OpR X (compareOp .NotEq) rNe := by
  intro pins s σ H x y v u Q I rx ry h
  obtain ⟨hs, q⟩ := h
  cases x with
  | non =>
    cases rx
    cases y with
    | non => cases ry; exact PySem.EqNone.ne_none_none (fin_bl I q (by simp))
    | bl j => cases ry; exact PySem.EqNone.ne_none_bool (fin_bl I q (by simp))
    | int j => obtain ⟨t', rfl⟩ := ry; exact PySem.EqNone.ne_none_int (fin_bl I q (by simp))
    | str j => obtain ⟨t', rfl⟩ := ry; exact PySem.EqNone.ne_none_str (fin_bl I q (by simp))
    | _ => exact absurd (show false = true from hs) Bool.false_ne_true
  | bl i =>
    cases rx
    cases y with
    | non => cases ry; exact PySem.EqNone.ne_bool_none (fin_bl I q (by simp))
    | bl j => cases ry; exact ne_bool (fin_bl I q (congrArg not dec_bl))
    | str j => obtain ⟨t', rfl⟩ := ry; exact PySem.EqMixed.ne_bool_str (fin_bl I q (by simp))
    | _ => exact absurd (show false = true from hs) Bool.false_ne_true
  | int i =>
    obtain ⟨t, rfl⟩ := rx
    cases y with
    | non => cases ry; exact PySem.EqNone.ne_int_none (fin_bl I q (by simp))
    | int j => obtain ⟨t', rfl⟩ := ry; exact ne_int (fin_bl I q (congrArg not dec_int))
    | str j => obtain ⟨t', rfl⟩ := ry; exact PySem.EqMixed.ne_int_str (fin_bl I q (by simp))
    | _ => exact absurd (show false = true from hs) Bool.false_ne_true
  | str i =>
    obtain ⟨t, rfl⟩ := rx
    cases y with
    | non => cases ry; exact PySem.EqNone.ne_str_none (fin_bl I q (by simp))
    | bl j => cases ry; exact PySem.EqMixed.ne_str_bool (fin_bl I q (by simp))
    | int j => obtain ⟨t', rfl⟩ := ry; exact PySem.EqMixed.ne_str_int (fin_bl I q (by simp))
    | str j => obtain ⟨t', rfl⟩ := ry; exact ne_str (fin_bl I q (congrArg not dec_str))
    | _ => exact absurd (show false = true from hs) Bool.false_ne_true
  | byt i =>
    obtain ⟨t, rfl⟩ := rx
    cases y with
    | byt j => obtain ⟨t', rfl⟩ := ry; exact PySem.W.ne_bytes (fin_bl I q (congrArg not dec_byt))
    | _ => exact absurd (show false = true from hs) Bool.false_ne_true
  | _ => cases y <;> exact absurd (show false = true from hs) Bool.false_ne_true
theorem op_lt : OpR X (compareOp .Lt) (rI0 fun i j => .bl (decide (i < j))) := opB0 fun _ _ _ _ _ _ _ q => lt_int q
theorem op_le : OpR X (compareOp .LtE) (rI0 fun i j => .bl (decide (i ≤ j))) := opB0 fun _ _ _ _ _ _ _ q => le_int q
theorem op_gt : OpR X (compareOp .Gt) (rI0 fun i j => .bl (decide (j < i))) := opB0 fun _ _ _ _ _ _ _ q => gt_int q
theorem op_ge : OpR X (compareOp .GtE) (rI0 fun i j => .bl (decide (j ≤ i))) := opB0 fun _ _ _ _ _ _ _ q => ge_int q
theorem op_lt_str : OpR X (compareOp .Lt) (fun x y H Q => ∃ i j, x = .str i ∧ y = .str j ∧ Q (.bl (decide (i.cps.toList < j.cps.toList))) H) := by
  intro pins s σ H x y v u Q I rx ry h
  obtain ⟨i, j, rfl, rfl, q⟩ := h
  obtain ⟨t, rfl⟩ := rx
  obtain ⟨t', rfl⟩ := ry
  exact lt_str (fin_bl I q rfl)
theorem op_in_str : OpR X (compareOp .In) (fun x y H Q => ∃ i j, x = .str i ∧ y = .str j ∧ Q (.bl (!(Builtin.Str.occurrences j i 0 j.length 1).isEmpty)) H) := by
  intro pins s σ H x y v u Q I rx ry h
  obtain ⟨i, j, rfl, rfl, q⟩ := h
  obtain ⟨t, rfl⟩ := rx
  obtain ⟨t', rfl⟩ := ry
  exact in_str (fin_bl I q rfl)
theorem OpR.or {f : Value → Value → Sem Value} {r r' : R2} (h : OpR X f r) (h' : OpR X f r') : OpR X f (fun x y H Q => r x y H Q ∨ r' x y H Q) := by
  intro pins s σ H x y v u Q I rx ry q
  rcases q with q | q
  · exact h pins s σ H x y v u Q I rx ry q
  · exact h' pins s σ H x y v u Q I rx ry q
theorem nomark (b : Expr) {op : CmpOp} (h : op ≠ .In := by decide) (h2 : op ≠ .NotIn := by decide) : behindInMarks op b = false := by
  have e1 : (op == CmpOp.In) = false := by cases op <;> first | rfl | exact absurd rfl h
  have e2 : (op == CmpOp.NotIn) = false := by cases op <;> first | rfl | exact absurd rfl h2
  cases b <;> simp [behindInMarks, e1, e2]
theorem pe_cmpR {op : CmpOp} {r : R2} (ho : OpR X (compareOp op) r) (ha : PE X a ta) (hb : PE X b tb) (hm : behindInMarks op b = false) : PE X (.Compare a [op] [b] pos) (tOp r ta tb) := by
  intro pins s σ H Q I h
  exact wpAny_Compare1 (binT ha hb I h fun v u s2 x y H2 I2 rx ry q => ho pins s2 σ H2 x y v u Q I2 rx ry q) hm
noncomputable def tTest (t : TE) : TT := fun σ H Q => t σ H fun x H' => ∃ k, x = .bl k ∧ Q k H'
theorem pt_cmpR {op : CmpOp} {r : R2} (ho : OpR X (compareOp op) r) (ha : PE X a ta) (hb : PE X b tb) (hm : behindInMarks op b = false) : PT X (.Compare a [op] [b] pos) (tTest (tOp r ta tb)) := by
  intro pins s σ H Q I h
  refine wpAny_isTrue_Compare1 (thn (ha pins s σ H _ I h) fun v s1 ⟨x, H1, I1, r1, q1⟩ => thn (hb pins s1 σ H1 _ I1 q1) fun u s2 ⟨y, H2, I2, r2, q2⟩ =>
    thn (ho pins s2 σ H2 x y v u _ I2 r1 r2 q2) fun c s3 ⟨z, H3, I3, r3, k, e, q3⟩ => ?_) hm
  subst e
  cases r3
  exact wpAny_truthy_bool ⟨H3, I3, q3⟩
noncomputable def tChain (r r' : R2) (ta tb tc : TE) : TE := fun σ H Q => ta σ H fun x H1 => tb σ H1 fun y H2 => r x y H2 fun z H3 => ∃ k, z = .bl k ∧
  (if k = true then tc σ H3 fun w' H4 => r' y w' H4 Q else Q (.bl false) H3)
theorem pe_chain {op op' : CmpOp} {r r' : R2} (ho : OpR X (compareOp op) r) (ho' : OpR X (compareOp op') r') (ha : PE X a ta) (hb : PE X b tb) (hc : PE X c tc)
    (hm : lastMarks [op, op'] [b, c] = false := by with_unfolding_all rfl) : PE X (.Compare a [op, op'] [b, c] pos) (tChain r r' ta tb tc) := by
  intro pins s σ H Q I h
  refine Compare_chain (thn (ha pins s σ H _ I h) fun v s1 ⟨x, H1, I1, r1, q1⟩ => chain_link (thn (hb pins s1 σ H1 _ I1 q1) fun u s2 ⟨y, H2, I2, r2, q2⟩ =>
    thn (ho pins s2 σ H2 x y v u _ I2 r1 r2 q2) fun d s3 ⟨z, H3, I3, r3, k, e, q3⟩ => ?_)) hm
  subst e
  cases r3
  refine wpAny_truthy_bool ?_
  cases k with
  | false => exact ite_ff ⟨.bl false, H3, I3, rfl, q3⟩
  | true => exact ite_tt (chain_last (thn (hc pins s3 σ H3 _ I3 q3) fun w' s4 ⟨z', H4, I4, r4, q4⟩ => ho' pins s4 σ H4 y z' u w' Q I4 r2 r4 q4))
theorem pt_chain {op op' : CmpOp} {r r' : R2} (ho : OpR X (compareOp op) r) (ho' : OpR X (compareOp op') r') (ha : PE X a ta) (hb : PE X b tb) (hc : PE X c tc)
    (hm : lastMarks [op, op'] [b, c] = false := by with_unfolding_all rfl) : PT X (.Compare a [op, op'] [b, c] pos) (tTest (tChain r r' ta tb tc)) := by
  intro pins s σ H Q I h
  refine isTrue_chain (thn (ha pins s σ H _ I h) fun v s1 ⟨x, H1, I1, r1, q1⟩ => test_link (thn (hb pins s1 σ H1 _ I1 q1) fun u s2 ⟨y, H2, I2, r2, q2⟩ =>
    thn (ho pins s2 σ H2 x y v u _ I2 r1 r2 q2) fun d s3 ⟨z, H3, I3, r3, k, e, q3⟩ => ?_)) hm
  subst e
  cases r3
  refine wpAny_truthy_bool ?_
  cases k with
  | false =>
    obtain ⟨k', e', q'⟩ := q3
    cases e'
    exact ite_ff ⟨H3, I3, q'⟩
  | true =>
    refine ite_tt (test_last (thn (hc pins s3 σ H3 _ I3 q3) fun w' s4 ⟨z', H4, I4, r4, q4⟩ => thn (ho' pins s4 σ H4 y z' u w' _ I4 r2 r4 q4) fun d' s5 ⟨z2, H5, I5, r5, k2, e2, q5⟩ => ?_))
    subst e2
    cases r5
    exact wpAny_truthy_bool ⟨H5, I5, q5⟩
noncomputable def TruV (K : PySem.W.Frag) (x : V) (H : Hp) (k : Bool) : Prop :=
  match x with
  | .non => k = false
  | .bl b => k = b
  | .int i => k = (i != 0)
  | .str y => y.length ≤ sizeLine ∧ k = ((y.length : Int) != 0)
  | .byt y => y.size ≤ sizeLine ∧ k = ((y.size : Int) != 0)
  | .ref p => (∃ xs, SqL K H p xs ∧ k = !xs.isEmpty) ∨ (∃ xs, SqT K H p xs ∧ k = !xs.isEmpty) ∨ ∃ kvs, H p = some (.dK kvs) ∧ k = !kvs.isEmpty
  | _ => False
theorem isEmpty_kv {κ : Type} {kvs : List (κ × V)} {vs : List (κ × Value)} (r : KV kvs vs) : (!vs.isEmpty) = !kvs.isEmpty := by
  cases r <;> rfl
theorem isEmpty_of {xs : List V} {its : List Value} (r : Vals xs its) : (!its.toArray.isEmpty) = !xs.isEmpty := by
  cases r <;> simp
theorem line63 : (sizeLine : Nat) < 2 ^ 63 := by rw [sizeLine_eq]; decide
theorem tru_ok : TruR X (fun x H Q => ∃ k, TruV X.K x H k ∧ Q k H) := by
  intro pins s σ H x v Q I rx h
  obtain ⟨k, e, q⟩ := h
  have hl := line63
  have hs : sizeLine = 16777216 := sizeLine_eq
  cases x with
  | non =>
    cases rx
    have e' : k = false := e
    subst e'
    exact truthy_none ⟨H, I, q⟩
  | bl b =>
    cases rx
    have e' : k = b := e
    subst e'
    exact wpAny_truthy_bool ⟨H, I, q⟩
  | int i =>
    obtain ⟨t, rfl⟩ := rx
    have e' : k = (i != 0) := e
    subst e'
    exact PySem.P.truthy_int ⟨H, I, q⟩
  | str y =>
    obtain ⟨t, rfl⟩ := rx
    obtain ⟨hy, e'⟩ : y.length ≤ sizeLine ∧ k = ((y.length : Int) != 0) := e
    subst e'
    exact PySem.P.truthy_str (by omega) ⟨H, I.tok _, q⟩
  | byt y =>
    obtain ⟨t, rfl⟩ := rx
    obtain ⟨hy, e'⟩ : y.size ≤ sizeLine ∧ k = ((y.size : Int) != 0) := e
    subst e'
    exact PySem.W.truthy_bytes (by omega) ⟨H, I.tok _, q⟩
  | ref p =>
    cases rx
    have e' : (∃ xs, SqL X.K H p xs ∧ k = !xs.isEmpty) ∨ (∃ xs, SqT X.K H p xs ∧ k = !xs.isEmpty) ∨ ∃ kvs, H p = some (.dK kvs) ∧ k = !kvs.isEmpty := e
    rcases e' with ⟨xs, hx, e'⟩ | ⟨xs, hx, e'⟩ | ⟨kvs, hx, e'⟩
    · subst e'
      obtain ⟨its, r, pl, hz⟩ := I.list hx
      have hlen := r.length
      exact wpAny_truthy_list pl.isList (by simp only [List.size_toArray]; omega) ⟨H, I.tok _, by rw [isEmpty_of r]; exact q⟩
    · subst e'
      obtain ⟨its, r, pl, hz⟩ := I.tuple hx
      have hlen := r.length
      exact truthy_tuple pl (by simp only [List.size_toArray]; omega) ⟨H, I.tok _, by rw [isEmpty_of r]; exact q⟩
    · subst e'
      obtain ⟨hz, hS, vs, r, m⟩ : kvs.length ≤ sizeLine ∧ (p == sysModules) = false ∧ ∃ vs, KV kvs vs ∧ s.heap.DictOf (mixKind X.prog X.w) p vs := I.hok p _ hx
      have hlen : kvs.length = vs.length := Paired.length r
      exact wpAny_truthy_dict hS m (by omega) ⟨H, I.tok _, by rw [isEmpty_kv r]; exact q⟩
  | _ => exact (show False from e).elim
theorem pt_truth (ha : PE X a ta) (he : ∀ whole, isTrue a X.env whole = (do let v ← whole; standAt a.pos; holding [v] (truthy v))) :
    PT X a (fun σ H Q => ta σ H fun x H' => ∃ k, TruV X.K x H' k ∧ Q k H') := by
  intro pins s σ H Q I h
  exact isTrue_plain (thn (ha pins s σ H _ I h) fun v s1 ⟨x, H1, I1, r1, q1⟩ => tru_ok pins s1 σ H1 x v Q I1 r1 q1) (he _)
theorem op_add_str : OpR X (binaryOp .Add) (fun x y H Q => ∃ i j, x = .str i ∧ y = .str j ∧ i.length + j.length ≤ sizeLine ∧ Q (.str (i ++ j)) H) := by
  intro pins s σ H x y v u Q I rx ry h
  obtain ⟨i, j, rfl, rfl, hz, q⟩ := h
  obtain ⟨t, rfl⟩ := rx
  obtain ⟨t', rfl⟩ := ry
  exact add_str (fun t' tk => ⟨.str (i ++ j), H, I.tok _, ⟨_, rfl⟩, q⟩) hz
theorem vals1 {x : V} {us : List Value} (r : Vals [x] us) : ∃ u, us = [u] ∧ RelV x u := by
  cases r with
  | cons r1 r2 => cases r2; exact ⟨_, rfl, r1⟩
end
end L2
namespace L2
open PySem PySem.Spec PyProof.Rows
structure ObjM (h : Heap) (x dx C : Addr) (mA : Str → Option Value) : Prop where
  obj : h.get? x = some (PySem.W.instObj C dx)
  ns : h.Ns1 dx mA
  ne : dx ≠ x
theorem lookIn_ns {h : Heap} {dx : Addr} {mA : Str → Option Value} (n : h.Ns1 dx mA) : ∃ od, h.get? dx = some od ∧ ∀ name, PySem.W.lookIn name od = some (mA name) := by
  obtain ⟨o, es, ep, ho, hd, hk, _, hm⟩ := n
  refine ⟨o, ho, fun name => ?_⟩
  have e := hm name
  unfold nsFind findBy at e
  rw [← Array.find?_toList] at e
  unfold PySem.W.lookIn
  rw [hd]
  dsimp only
  split
  · rename_i y q
    rw [q] at e
    exact congrArg some e
  · rename_i q
    rw [q] at e
    have a : es.toList.any (·.refKey) = false := by
      rw [List.any_eq_false]
      intro y hy
      obtain ⟨z, t, hkey⟩ := hk y (Array.mem_toList_iff.mp hy)
      simp [DictEntry.refKey, hkey]
    have a' : ¬ es.toList.any (·.refKey) = true := by rw [a]; exact Bool.false_ne_true
    rw [if_neg a']
    exact congrArg some e
theorem ObjM.look {h : Heap} {x dx C : Addr} {mA : Str → Option Value} (I : ObjM h x dx C mA) : ∃ od, PySem.W.InstAt h x (PySem.W.instObj C dx) C (some od) ∧ ∀ name, PySem.W.lookIn name od = some (mA name) :=
  let ⟨od, ho, hl⟩ := lookIn_ns I.ns
  ⟨od, ⟨I.obj, rfl, rfl, ho⟩, hl⟩
section
variable {P : Program} {w : World} {H H' : Hp} {h h' : Heap} {a C dx : Addr} {fs fs' : List (Str × V)}
theorem ins_get (hok : HOk P w H h) (e : H a = some (.ins C dx fs)) : ∃ mA, ObjM h a dx C mA ∧ (∀ f, RelO (fs.lookup f) (mA f)) ∧ PySem.Within mA (fs.map (·.1)) ∧ fs.length ≤ 1000 ∧ H dx = some (.own a) := by
  obtain ⟨d, z, ne, ob, mA, n, r, q⟩ := (show ObjOk P w H h a (.ins C dx fs) from hok a _ e)
  exact ⟨mA, ⟨ob, n, ne⟩, r, q, z, d⟩
end
structure Cls (K : PySem.W.Frag) (C : Addr) : Prop where
  pg : PySem.W.plainGet K C Str.empty = true
  hd : PySem.W.hasDictIn K C = true
  po : PySem.W.plainOver K C = true
  sa : PySem.W.findIn K (.ref C) "__setattr__" = some (some (.builtin "object.__setattr__"))
theorem Cls.get {K : PySem.W.Frag} {C : Addr} (c : Cls K C) (f : Str) : PySem.W.plainGet K C f = true := c.pg
section
variable {X : Cx} {pins : List (Addr × Obj)} {σ : St} {H : Hp} {s : Shared} {a C dx : Addr} {fs : List (Str × V)} {f : Str} {v : V} {A : Around} {E : Value → Shared → Prop}
theorem Inv.made (I : Inv X pins σ H s) : Inv X pins σ (upd (upd H s.heap.objs.size (.own (s.heap.objs.size + 1))) (s.heap.objs.size + 1) (.ins C s.heap.objs.size []))
    { s with heap := (s.heap.push PySem.W.emptyDict).push (PySem.W.instObj C s.heap.objs.size) } := by
  have e1 : (s.heap.push PySem.W.emptyDict).get? s.heap.objs.size = some PySem.W.emptyDict := Heap.get?_push_size s.heap rfl
  have e2 : ((s.heap.push PySem.W.emptyDict).push (PySem.W.instObj C s.heap.objs.size)).get? (s.heap.objs.size + 1) = some (PySem.W.instObj C s.heap.objs.size) := by
    have := Heap.get?_push_size (s.heap.push PySem.W.emptyDict) (o := PySem.W.instObj C s.heap.objs.size) rfl
    rwa [Heap.size_push] at this
  have e3 : (s.heap.push PySem.W.emptyDict).Ns s.heap.objs.size (fun _ => none) := ⟨PySem.W.emptyDict, #[], _, e1, rfl, (fun e he => absurd he (by simp)), fun _ => rfl⟩
  have I1 := I.laid (a := s.heap.objs.size) (o := .own (s.heap.objs.size + 1)) (h' := s.heap.push PySem.W.emptyDict) (t' := s.toks) (fun b u q => Heap.get?_push_of_some _ q) (Nat.le_refl _) ⟨_, e1⟩
  refine I1.laid (a := s.heap.objs.size + 1) (o := .ins C s.heap.objs.size []) (t' := s.toks) (fun b u q => Heap.get?_push_of_some _ q) (Nat.le_of_eq (Heap.size_push _ _)) ?_
  have ne : s.heap.objs.size ≠ s.heap.objs.size + 1 := Nat.ne_of_lt (Nat.lt_succ_self _)
  refine ⟨by rw [upd_ne ne, upd_same], Nat.zero_le _, ne, e2, fun _ => none, (Heap.Ns1.of_empty e3).at fun o q => Heap.get?_push_of_some _ q, fun _ => True.intro, fun y hy => absurd rfl hy⟩
end
section
variable {X : Cx} {pins : List (Addr × Obj)} {σ : St} {H : Hp} {s : Shared} {A : Around} {E : Value → Shared → Prop} {Q : Value → Shared → Prop} {c : Value} {b : Bool}
inductive TyOf (K : PySem.W.Frag) (H : Hp) : V → Value → Prop where
  | non : TyOf K H .non (.type "NoneType")
  | bl (x : Bool) : TyOf K H (.bl x) (.type "bool")
  | int (i : Int) : TyOf K H (.int i) (.type "int")
  | str (x : Str) : TyOf K H (.str x) (.type "str")
  | flt (x : UInt64) : TyOf K H (.flt x) (.type "float")
  | lst {a : Addr} {xs : List V} (e : H a = some (.lst xs)) : TyOf K H (.ref a) (.type "list")
  | frz {a : Addr} {o : Obj} {xs : List V} (e : H a = some (.frz o (.lst xs))) : TyOf K H (.ref a) (.type "list")
  | tup {a : Addr} {xs : List V} (e : H a = some (.tup xs)) : TyOf K H (.ref a) (.type "tuple")
  | dK {a : Addr} {kvs : List (Key × V)} (e : H a = some (.dK kvs)) : TyOf K H (.ref a) (.type "dict")
  | dT {a : Addr} {kvs : List (List Key × V)} (e : H a = some (.dT kvs)) : TyOf K H (.ref a) (.type "dict")
  | ins {a C dx : Addr} {fs : List (Str × V)} (e : H a = some (.ins C dx fs)) (cl : Cls K C) (ha : PySem.W.findIn K (.ref C) "__class__" = some (some (.builtin "object.__class__")))
      (hn : PySem.W.specialIn K (.builtin "object.__class__") "__get__" = some (some (.builtin "getset_descriptor.__get__"))) (htk : PySem.W.takesIn K (.builtin "object.__class__") = some true)
      (hm : PySem.W.mroIn K C (.type "object") = some true) : TyOf K H (.ref a) (.ref C)
theorem isinst_ok {x : V} {u t : Value} (I : Inv X pins σ H s) (rx : RelV x u) (ty : TyOf X.K H x t) (e : PySem.W.kitOne X.K t c = some b) (h : ∀ tk, Q (.bool b) { s with toks := tk }) :
    wpAny (model X.prog X.w) A (call (.builtin "isinstance") [u, c]) Q E s := by
  cases ty with
  | non => cases (show u = Value.none from rx); exact PySem.W.kia_one PySem.W.kitx_none I.kIn True.intro e (fun z => nomatch z) h
  | bl y => cases (show u = Value.bool y from rx); exact PySem.W.kia_one PySem.W.kitx_bool I.kIn True.intro e (fun z => nomatch z) h
  | int i => obtain ⟨t, q⟩ := (show ∃ t, u = Value.int i t from rx); cases q; exact PySem.W.kia_one PySem.W.kitx_int I.kIn True.intro e (fun z => nomatch z) h
  | str y => obtain ⟨t, q⟩ := (show ∃ t, u = Value.str y t from rx); cases q; exact PySem.W.kia_one PySem.W.kitx_str I.kIn True.intro e (fun z => nomatch z) h
  | flt y => obtain ⟨t, q⟩ := (show ∃ t, u = Value.float y t from rx); cases q; exact PySem.W.kia_one PySem.W.kitx_float I.kIn True.intro e (fun z => nomatch z) h
  | @lst a xs ea =>
    cases (show u = Value.ref a from rx)
    obtain ⟨_, _, n, _, h1⟩ := (show ObjOk X.prog X.w H s.heap a (.lst xs) from I.hok a _ ea)
    exact PySem.W.kia_one PySem.W.kitx_list I.kIn ⟨_, h1, rfl⟩ e (fun z => nomatch z) h
  | @frz a ob xs ea =>
    cases (show u = Value.ref a from rx)
    obtain ⟨_, _, _, n, _, h1⟩ := (show ObjOk X.prog X.w H s.heap a (.frz ob (.lst xs)) from I.hok a _ ea)
    exact PySem.W.kia_one PySem.W.kitx_list I.kIn ⟨_, h1, rfl⟩ e (fun z => nomatch z) h
  | @tup a xs ea =>
    cases (show u = Value.ref a from rx)
    obtain ⟨_, _, _, p⟩ := (show ObjOk X.prog X.w H s.heap a (.tup xs) from I.hok a _ ea)
    obtain ⟨o, h1, h2, _⟩ := p
    exact PySem.W.kia_one PySem.W.kitx_tuple I.kIn ⟨o, h1, h2⟩ e (fun z => nomatch z) h
  | @dK a kvs ea =>
    cases (show u = Value.ref a from rx)
    obtain ⟨_, _, vs, _, p⟩ := (show ObjOk X.prog X.w H s.heap a (.dK kvs) from I.hok a _ ea)
    obtain ⟨o, es, ep, h1, h2, _⟩ := p
    exact PySem.W.kia_one PySem.W.kitx_dict I.kIn ⟨o, h1, h2.1⟩ e (fun z => nomatch z) h
  | @dT a kvs ea =>
    cases (show u = Value.ref a from rx)
    obtain ⟨_, _, xs, _, o, es, ep, h1, h2, _⟩ := (show ObjOk X.prog X.w H s.heap a (.dT kvs) from I.hok a _ ea)
    exact PySem.W.kia_one PySem.W.kitx_dict I.kIn ⟨o, h1, h2.1⟩ e (fun z => nomatch z) h
  | @ins a C dx fs ea cl ha hn htk hm =>
    cases (show u = Value.ref a from rx)
    obtain ⟨mA, O, _⟩ := ins_get I.hok ea
    obtain ⟨od, J, _⟩ := O.look
    exact PySem.W.kia_one (PySem.W.kitx_own (cl.get _) cl.hd ha hn htk hm) I.kIn J e (fun z => nomatch z) h
end
end L2
namespace L2
open PySem PySem.Spec PyProof.Rows
structure Room (k : Nat) (A : Around) : Prop where
  hd : A.handled = none
  dp : A.depth + 3 * k + 5 < recursionLimit
  un : A.units + 16 * k + 200 < cLine
theorem Room.mono {j k : Nat} {A : Around} (r : Room k A) (h : j ≤ k) : Room j A := ⟨r.hd, by have := r.dp; omega, by have := r.un; omega⟩
theorem Room.deeper {k : Nat} {A : Around} (r : Room (k + 1) A) (env : Env) : Room k (A.deeper env) :=
  ⟨r.hd, by have := r.dp; show A.depth + 1 + 3 * k + 5 < _; omega, by have := r.un; show A.units + 3 + 16 * k + 200 < _; omega⟩
theorem Room.in1 {k : Nat} {A : Around} (r : Room (k + 1) A) : Room k A.in1 :=
  ⟨r.hd, by have := r.dp; show A.depth + 3 * k + 5 < _; omega, by have := r.un; show A.units + 1 + 16 * k + 200 < _; omega⟩
theorem Room.depth {k : Nat} {A : Around} (r : Room k A) : A.depth < recursionLimit := by have := r.dp; omega
theorem Room.units {k : Nat} {A : Around} (r : Room k A) : A.units + 64 < cLine := by have := r.un; omega
noncomputable def tNil : TA := fun _ H Q => Q [] H
noncomputable def tCons (ta : TE) (tr : TA) : TA := fun σ H Q => ta σ H fun x H1 => tr σ H1 fun xs H2 => Q (x :: xs) H2
section
variable {X : Cx} {e : Expr} {es : List Expr} {te : TE} {t : TA} {pos : Pos}
theorem pa_nil : PA X [] tNil := fun _ _ _ _ H Q I h => Calls.spliced_nil ⟨[], H, I, .nil, h⟩
theorem pa_cons (ha : PE X e te) (hr : PA X es t) (hs : starEach (e :: es) X.env = (false, eval e X.env) :: starEach es X.env := by rfl) : PA X (e :: es) (tCons te t) := by
  intro pos pins s σ H Q I h
  rw [hs]
  show wpAny _ _ (spliced ((false, eval e X.env) :: backTo pos (starEach es X.env))) _ _ s
  refine Calls.spliced_cons (thn (ha pins s σ H _ I h) fun u s1 ⟨x, H1, I1, r1, q1⟩ => ?_)
  exact thn (hr pos pins s1 σ H1 _ I1 q1) fun us s2 ⟨xs, H2, I2, r2, q2⟩ => ⟨x :: xs, H2, I2, .cons r1 r2, q2⟩
noncomputable def tTup (t : TA) : TE := fun σ H Q => t σ H fun xs H1 => xs.length ≤ sizeLine ∧ ∀ p, H1 p = none → Q (.ref p) (upd H1 p (.tup xs))
noncomputable def tLst (t : TA) : TE := fun σ H Q => t σ H fun xs H1 => xs.length ≤ sizeLine ∧ ∀ p, H1 p = none → Q (.ref p) (upd H1 p (.lst xs))
theorem pe_tup {x1} (h : PA X es t) : PE X (.Tuple es x1 pos) (tTup t) := by
  intro pins s σ H Q I hq
  refine wpAny_Tuple_spliced (thn (h pos pins s σ H _ I hq) fun us s1 ⟨xs, H1, I1, r, z, q⟩ => ⟨by rw [← r.length]; exact z, ?_⟩)
  have hf : H1 s1.heap.objs.size = none := I1.hok.fresh (Nat.le_refl _)
  refine ⟨.ref s1.heap.objs.size, upd H1 s1.heap.objs.size (.tup xs), I1.laid (t' := s1.toks) (fun b u e => Heap.get?_push_of_some _ e) (Nat.le_refl _) ?_, rfl, q _ hf⟩
  exact ⟨z, us, r, ⟨_, Heap.get?_push_size _ rfl, rfl, _, rfl⟩⟩
theorem pe_lst (h : PA X es t) : PE X (.List es pos) (tLst t) := by
  intro pins s σ H Q I hq
  refine wpAny_List_spliced (thn (h pos pins s σ H _ I hq) fun us s1 ⟨xs, H1, I1, r, z, q⟩ => ⟨by rw [← r.length]; exact z, ?_⟩)
  have hf : H1 s1.heap.objs.size = none := I1.hok.fresh (Nat.le_refl _)
  refine ⟨.ref s1.heap.objs.size, upd H1 s1.heap.objs.size (.lst xs), I1.laid (t' := s1.toks) (fun b u e => Heap.get?_push_of_some _ e) (Nat.le_refl _) ?_, rfl, q _ hf⟩
  exact ⟨z, us, 0, r, Heap.get?_push_size _ rfl⟩
end
noncomputable abbrev Sp := List V → Hp → VK → XK → Prop
noncomputable abbrev CXT := List Env → Hp → Shared → XK → Value → Shared → Prop
structure Env0 (P : Program) (w : World) (K : PySem.W.Frag) (mg : Str → Option Value) (base : Heap) (A : Around) (outer : List Env) (s : Shared) (H : Hp) : Prop where
  frames : A.frames = some outer
  mod : Mod K mg base
  bs : ∀ b o, base.get? b = some o → s.heap.get? b = some o ∧ H b = none
  bsz : base.objs.size ≤ s.heap.objs.size
  funs : s.heap.FunFrames base outer
  frf : ∀ b ∈ frs outer, H b = none
  hok : HOk P w H s.heap
  bare : AllBare s.gens
  tab : ∀ b q, tabQ K b = some q → H b = some (.tbl q)
noncomputable def CE (outer : List Env) (P : Program) (w : World) (H : Hp) (s : Shared) (Q : VK) (u : Value) (s' : Shared) : Prop :=
  ∃ v H', s'.os = s.os ∧ AllBare s'.gens ∧ Un (frs outer) [] H H' s.heap s'.heap ∧ HOk P w H' s'.heap ∧ RelV v u ∧ Q v H'
noncomputable def CR (CX : CXT) (outer : List Env) (P : Program) (w : World) (H : Hp) (s : Shared) (Q : VK) (E : XK) (r : Result) (s' : Shared) : Prop :=
  match r with
  | .ok (.ret u) => CE outer P w H s Q u s'
  | .ok _ => False
  | .error e => CX outer H s E e s'
structure FnOk (P : Program) (w : World) (K : PySem.W.Frag) (mg : Str → Option Value) (base : Heap) (CX : CXT) (k : Nat) (f : Addr) (fd : FuncData) (ps : List Str) (sp : Sp) : Prop where
  len : ∀ vs H Q E, sp vs H Q E → vs.length = ps.length
  run : ∀ (A : Around) (outer : List Env) (s : Shared) (H : Hp) (args : Args) (us : List Value) (vs : List V) (Q : VK) (E : XK), Room k A → Env0 P w K mg base A outer s H → BindsTo s fd args (ps.zip us) → Vals vs us → sp vs H Q E →
    codeAny (model P w) A (.call (.ref f) args) (CR CX outer P w H s Q E) s
theorem FnOk.mono {P : Program} {w : World} {K : PySem.W.Frag} {mg : Str → Option Value} {base : Heap} {CX : CXT} {j k : Nat} {f : Addr} {fd : FuncData} {ps : List Str} {sp : Sp} (F : FnOk P w K mg base CX j f fd ps sp) (h : j ≤ k) :
    FnOk P w K mg base CX k f fd ps sp := ⟨F.len, fun A outer s H args us vs Q E hr => F.run A outer s H args us vs Q E (hr.mono h)⟩
theorem FnOk.imp {P : Program} {w : World} {K : PySem.W.Frag} {mg : Str → Option Value} {base : Heap} {CX : CXT} {k : Nat} {f : Addr} {fd : FuncData} {ps : List Str} {sp sp' : Sp} (F : FnOk P w K mg base CX k f fd ps sp)
    (h : ∀ vs H Q E, sp' vs H Q E → sp vs H Q E) : FnOk P w K mg base CX k f fd ps sp' :=
  ⟨fun vs H Q E q => F.len vs H Q E (h _ _ _ _ q), fun A outer s H args us vs Q E hr he hb hv hs => F.run A outer s H args us vs Q E hr he hb hv (h _ _ _ _ hs)⟩
theorem Env0.in1 {P : Program} {w : World} {K : PySem.W.Frag} {mg : Str → Option Value} {base : Heap} {A : Around} {outer : List Env} {s : Shared} {H : Hp} (e : Env0 P w K mg base A outer s H) :
    Env0 P w K mg base A.in1 outer s H := ⟨e.frames, e.mod, e.bs, e.bsz, e.funs, e.frf, e.hok, e.bare, e.tab⟩
section
variable {X : Cx} {pins : List (Addr × Obj)} {σ : St} {H : Hp} {s s' : Shared}
theorem Inv.env0 (I : Inv X pins σ H s) : Env0 X.prog X.w X.K X.mg X.base X.A X.stack s H :=
  ⟨I.ok.frames, I.ok.mod, I.bs, Nat.le_trans I.ok.bsz I.sz, I.stack, I.stkFree, I.hok, I.bare, I.tab⟩
theorem Inv.after {Q : VK} {u : Value} (I : Inv X pins σ H s) (h : CE X.stack X.prog X.w H s Q u s') : EP X pins σ Q u s' := by
  obtain ⟨v, H', os, bare, un, hok, r, q⟩ := h
  obtain ⟨hh, g, d, t, os'⟩ := s'
  obtain rfl : os' = s.os := os
  exact ⟨v, H', I.call (h' := hh) (g' := g) (d' := d) (t' := t) (ch := []) un hok bare (fun b z => absurd z (by simp)), r, q⟩
end
noncomputable def tCall (sp : Sp) (dvs : List V) (E : XK) (t : TA) : TE := fun σ H Q => t σ H fun vs H1 => sp (vs ++ dvs) H1 Q E
noncomputable def Binds (K : PySem.W.Frag) (fd : FuncData) (ps : List Str) (ds : List Value) : Prop :=
  ∀ (s : Shared) (us : List Value), K.In s.heap → (us ++ ds).length = ps.length → BindsTo s fd ⟨us, []⟩ (ps.zip (us ++ ds))
theorem Binds.all {K : PySem.W.Frag} {fd : FuncData} {ps : List Str} (h : ∀ us : List Value, us.length = ps.length → bindArgs fd ⟨us, []⟩ = pure (ps.zip us)) : Binds K fd ps [] := fun s us _ hl => by
  rw [List.append_nil] at hl ⊢
  exact .of_eq (h us hl)
noncomputable def Passes (CX : CXT) (X : Cx) (E : XK) : Prop := ∀ (pins : List (Addr × Obj)) (σ : St) (H : Hp) (s : Shared) (e : Value) (s' : Shared), Inv X pins σ H s → CX X.stack H s E e s' → X.xe e s'
section
variable {X : Cx} {CX : CXT} {k : Nat} {f C : Addr} {fd : FuncData} {ps : List Str} {sp : Sp} {dvs : List V} {ds : List Value} {E : XK} {x m : Str} {p pos apos : Pos} {e o : Expr} {es : List Expr} {ta : TE} {t : TA}
theorem run_fn {pins : List (Addr × Obj)} {σ : St} {H : Hp} {s : Shared} {Q : VK} {us : List Value} {vs : List V} (F : FnOk X.prog X.w X.K X.mg X.base CX k f fd ps sp) (hr : Room k X.A) (hb : Binds X.K fd ps ds) (hd : Vals dvs ds) (hx : Passes CX X E)
    (I : Inv X pins σ H s) (r : Vals vs us) (h : sp (vs ++ dvs) H Q E) : wpAny (model X.prog X.w) X.A (call (.ref f) us) (EP X pins σ Q) X.xe s := by
  have r2 : Vals (vs ++ dvs) (us ++ ds) := r.append hd
  have hl : (us ++ ds).length = ps.length := by rw [← r2.length]; exact F.len _ _ _ _ h
  refine wpAny_call (codeAny_mono (F.run X.A X.stack s H ⟨us, []⟩ (us ++ ds) (vs ++ dvs) Q E hr I.env0 (hb s us I.kIn hl) r2 h) fun r s' hq => ?_)
  cases r with
  | error e => exact hx pins σ H s e s' I hq
  | ok fl =>
    cases fl with
    | ret u => exact I.after hq
    | next => exact False.elim hq
    | brk => exact False.elim hq
    | cont => exact False.elim hq
theorem pe_call (F : FnOk X.prog X.w X.K X.mg X.base CX k f fd ps sp) (hr : Room k X.A) (hg : Gl X x) (hm : X.mg x = some (.ref f)) (hk : PySem.W.keepIn X.K (.ref f) = true) (hb : Binds X.K fd ps ds) (hd : Vals dvs ds) (hx : Passes CX X E)
    (ha : PA X (e :: es) t) (hdb : (x == ("__debug__" : Str)) = false := by decide) (he : starEach (e :: es) X.env = (false, eval e X.env) :: starEach es X.env := by rfl) (hpl : (backTo pos (starEach es X.env)).any (·.1) = false := by rfl) :
    PE X (.Call (.Name x p) (e :: es) [] pos) (tCall sp dvs E t) := by
  intro pins s σ H Q I h
  refine wpAny_Call_Name_kw (ld_glob I hg hm ?_ hdb)
  refine PySem.W.callWith_K (h₀ := X.base) I.ok.mod.kin hk (thn (ha pos pins s σ H _ I h) fun us s1 ⟨vs, H1, I1, r, q⟩ => ⟨I1.kIn, ?_⟩) he hpl
  exact run_fn F hr hb hd hx I1 r q
end
structure FnScope (N P : List Str) (sc : Scope) : Prop where
  kind : sc.kind = .function
  co : sc.isCoroutine = false
  gen : sc.isGenerator = false
  nd : N.Nodup
  pre : N.take P.length = P
  par : ∀ x ∈ P, sc.names.lookup x = some .local ∨ sc.names.lookup x = some .cell
  nofree : ∀ y ∈ sc.names, y.2 ≠ .free
theorem bindL_out {kindOf : Str → Option NameKind} {x : Str} : ∀ {binds : List (Str × Value)} {m : Str → Option Value}, (∀ v, (x, v) ∉ binds) → bindL kindOf binds m x = m x
  | [], _, _ => rfl
  | (n, v) :: r, m, h => by
    unfold bindL
    rw [bindL_out fun w hw => h w (List.mem_cons_of_mem _ hw)]
    split
    · have : x ≠ n := by rintro rfl; exact h v List.mem_cons_self
      simp [this]
    · rfl
theorem bindC_out {kindOf : Str → Option NameKind} {x : Str} : ∀ {binds : List (Str × Value)} {m : Str → Option Value}, (∀ v, (x, v) ∉ binds) → bindC kindOf binds m x = m x
  | [], _, _ => rfl
  | (n, v) :: r, m, h => by
    unfold bindC
    rw [bindC_out fun w hw => h w (List.mem_cons_of_mem _ hw)]
    split
    · rfl
    · have : x ≠ n := by rintro rfl; exact h v List.mem_cons_self
      simp [this]
theorem bindL_get {kindOf : Str → Option NameKind} {x : Str} {v : Value} : ∀ {P : List Str} {vs : List Value} {i : Nat} {m : Str → Option Value}, P.Nodup → P[i]? = some x → vs[i]? = some v → kindOf x = some .local →
    bindL kindOf (P.zip vs) m x = some v
  | [], _, _, _, _, h, _, _ => by simp at h
  | _ :: _, [], _, _, _, _, h, _ => by simp at h
  | p :: P, w :: vs, 0, m, nd, h1, h2, hk => by
    simp at h1 h2; subst h1; subst h2
    show bindL kindOf ((p, w) :: P.zip vs) m p = _
    unfold bindL
    rw [bindL_out fun v hv => (List.nodup_cons.mp nd).1 (List.of_mem_zip hv).1, if_pos hk]
    simp
  | p :: P, w :: vs, i + 1, m, nd, h1, h2, hk => by
    show bindL kindOf ((p, w) :: P.zip vs) m x = _
    unfold bindL
    exact bindL_get (i := i) (List.nodup_cons.mp nd).2 (by simpa using h1) (by simpa using h2) hk
theorem bindC_get {kindOf : Str → Option NameKind} {x : Str} {v : Value} : ∀ {P : List Str} {vs : List Value} {i : Nat} {m : Str → Option Value}, P.Nodup → P[i]? = some x → vs[i]? = some v → kindOf x ≠ some .local →
    bindC kindOf (P.zip vs) m x = some v
  | [], _, _, _, _, h, _, _ => by simp at h
  | _ :: _, [], _, _, _, _, h, _ => by simp at h
  | p :: P, w :: vs, 0, m, nd, h1, h2, hk => by
    simp at h1 h2; subst h1; subst h2
    show bindC kindOf ((p, w) :: P.zip vs) m p = _
    unfold bindC
    rw [bindC_out fun v hv => (List.nodup_cons.mp nd).1 (List.of_mem_zip hv).1, if_neg hk]
    simp
  | p :: P, w :: vs, i + 1, m, nd, h1, h2, hk => by
    show bindC kindOf ((p, w) :: P.zip vs) m x = _
    unfold bindC
    exact bindC_get (i := i) (List.nodup_cons.mp nd).2 (by simpa using h1) (by simpa using h2) hk
noncomputable def start (N : List Str) (vs : List V) : St := vs.map some ++ List.replicate (N.length - vs.length) none
noncomputable def cxOf (CX : CXT) (P : Program) (w : World) (K : PySem.W.Frag) (mg : Str → Option Value) (base : Heap) (N : List Str) (qual : Str) (scope : Scope) (f : Addr) (cd : Value) (A : Around) (outer : List Env) (s : Shared) (H : Hp) (E : XK) : Cx where
  prog := P
  w := w
  K := K
  mg := mg
  base := base
  A := A.deeper (envOfC qual scope s.heap.objs.size f cd)
  N := N
  s₀ := s
  H₀ := H
  env := envOfC qual scope s.heap.objs.size f cd
  outer := outer
  stack := envOfC qual scope s.heap.objs.size f cd :: outer
  ex := []
  calm := true
  fn := fun _ => true
  pn := []
  xe := fun e s' => wpAny (model P w) (A.deeper (envOfC qual scope s.heap.objs.size f cd)) (leaving (envOfC qual scope s.heap.objs.size f cd) e) (fun _ s'' => CX outer H s E e s'') (fun e' s'' => CX outer H s E e' s'') s'
theorem cell_has {sc : Scope} {n : Nat} {x : Str} (h : sc.names.lookup x = some .cell) : ∃ c, (cellsFrom n sc.names []).lookup x = some c := by
  have q := PySem.W.cellsFrom_some sc.names n [] (.inl h)
  exact Option.isSome_iff_exists.mp q
theorem inv_start {CX : CXT} {P : Program} {w : World} {K : PySem.W.Frag} {mg : Str → Option Value} {base : Heap} {N ps : List Str} {qual : Str} {scope : Scope} {f : Addr} {cd : Value} {A : Around} {outer : List Env} {s s1 : Shared} {H : Hp} {E : XK} {us : List Value} {vs : List V}
    (S : FnScope N ps scope) (hd : A.handled = none) (e0 : Env0 P w K mg base A outer s H) (hl : vs.length = ps.length) (r : Vals vs us)
    (x : InCallC s s.heap.objs.size (bindL (envOfC qual scope s.heap.objs.size f cd).kindOf (ps.zip us) fun _ => none) (cellsFrom (s.heap.objs.size + 1) scope.names []) (bindC (envOfC qual scope s.heap.objs.size f cd).kindOf (ps.zip us) fun _ => none) s1) :
    Inv (cxOf CX P w K mg base N qual scope f cd A outer s H E) [] (start N vs) H s1 := by
  have hpl : ps.length ≤ N.length := by have := congrArg List.length S.pre; rw [List.length_take] at this; omega
  obtain ⟨h1, tk, rfl, hk⟩ := x.done
  have noA : ∀ b : Addr, b ∉ (cxOf CX P w K mg base N qual scope f cd A outer s H E).ex := fun b z => absurd (show b ∈ ([] : List Addr) from z) (by simp)
  refine ⟨⟨e0.mod, S.kind, rfl, rfl, Nat.le_refl _, fun y z c h1 h2 => ?_, fun y hy => ?_, fun y c _ h => ?_, fun _ => hd, Around.frames_deeper e0.frames, .inr ⟨rfl, rfl⟩, fun b z => absurd z (noA b), e0.bs, e0.bsz, fun b _ _ => noA b, fun b z => absurd z (noA b), e0.funs, e0.frf, e0.tab⟩,
    rfl, e0.bare, Un.kept hk, ⟨_, x.toInCall.ns, fun i y v h1 h2 h3 => ?_⟩, fun y c h => ⟨_, x.cell y c h⟩, e0.hok.fresh (Nat.le_refl _), fun y c h => ?_, fun p hp => absurd (show p ∈ ([] : List (Addr × Obj)) from hp) (by simp), e0.hok.kept hk, ?_⟩
  · exact name_of_addr x.apart (PySem.mem_of_lookup h1) (PySem.mem_of_lookup h2)
  · have hy : scope.names.lookup y = some .cell ∨ scope.names.lookup y = some .free := hy
    rcases hy with hy | hy
    · exact cell_has hy
    · exact absurd rfl (S.nofree _ (PySem.mem_of_lookup hy))
  · exact Nat.le_of_lt (x.above y c (PySem.mem_of_lookup h))
  · have hi : i < vs.length := by
      unfold start at h2
      by_cases hi : i < vs.length
      · exact hi
      · rw [List.getElem?_append_right (by simpa using hi)] at h2
        rw [List.getElem?_replicate] at h2
        split at h2 <;> cases h2
    have ha : vs[i]? = some v := by
      unfold start at h2
      rw [List.getElem?_append_left (by simpa using hi), List.getElem?_map] at h2
      cases e : vs[i]? with
      | none => rw [e] at h2; cases h2
      | some a => rw [e] at h2; cases h2; rfl
    obtain ⟨u, hu, rv⟩ := r.get ha
    have hp : ps[i]? = some y := by
      rw [← S.pre, List.getElem?_take_of_lt (by omega)]; exact h1
    have ndP : ps.Nodup := by rw [← S.pre]; exact S.nd.sublist (List.take_sublist _ _)
    refine ⟨u, rv, ?_⟩
    rcases S.par y (List.mem_of_getElem? hp) with k | k
    · exact .inl ⟨k, bindL_get ndP hp hu k⟩
    · obtain ⟨c, e⟩ := cell_has (n := s.heap.objs.size + 1) k
      refine .inr ⟨.inl k, c, e, ?_⟩
      have q := x.cell y c e
      rw [bindC_get ndP hp hu (by show scope.names.lookup y ≠ _; rw [k]; decide)] at q
      exact q
  · exact e0.hok.fresh (Nat.le_of_lt (x.above y c (PySem.mem_of_lookup h)))
  · unfold start
    show _ = N.length
    rw [List.length_append, List.length_map, List.length_replicate]
    omega
theorem fn_of {CX : CXT} {P : Program} {w : World} {K : PySem.W.Frag} {mg : Str → Option Value} {base : Heap} {k : Nat} {f : Addr} {name qual : Str} {params : Arguments} {body : List Stmt} {scope : Scope} {dV kV doc pm cdv ct oc : Value} {an od : Option Addr}
    {osl : Array (Option Value)} {N ps : List Str} {sp : Sp} (lk : K.lookup f = some ⟨oc, od, .func (PySem.W.fnOf name qual params body scope dV kV doc pm an cdv ct), osl⟩) (hcd : PySem.W.codeIn K cdv qual = true) (S : FnScope N ps scope)
    (len : ∀ vs H Q E, sp vs H Q E → vs.length = ps.length)
    (hbody : ∀ (A : Around) (outer : List Env) (s : Shared) (H : Hp) (vs : List V) (Q : VK) (E : XK), Room k (A.deeper (envOfC qual scope s.heap.objs.size f cdv)) → sp vs H Q E →
      ∃ t, PSs (cxOf CX P w K mg base N qual scope f cdv A outer s H E) body t ∧ t { nx := fun _ H' => Q .non H', rt := Q } (start N vs) H) :
    FnOk P w K mg base CX (k + 1) f (PySem.W.fnOf name qual params body scope dV kV doc pm an cdv ct) ps sp := by
  refine ⟨len, fun A outer s H args us vs Q E hr e0 hb r hsp => ?_⟩
  have hl := len _ _ _ _ hsp
  have KX : K.In s.heap := e0.mod.kin.keeps fun b o e => (e0.bs b o e).1
  have lim : s.heap.NoLimit := e0.mod.nolimit.keeps fun b o e => (e0.bs b o e).1
  have hkind : ∀ y ∈ ps.zip us, scope.names.lookup y.1 = some .local ∨ (scope.names.lookup y.1 = some .cell ∧ ((cellsFrom (s.heap.objs.size + 1) scope.names []).lookup y.1).isSome = true) := fun ⟨n, v⟩ hy => by
    rcases S.par n (List.of_mem_zip hy).1 with q | q
    · exact .inl q
    · exact .inr ⟨q, PySem.W.cellsFrom_some _ _ _ (.inl q)⟩
  refine codeAny_call_function hr.depth (KX _ _ lk) rfl S.co S.gen rfl (PySem.W.codeRec_of KX hcd) (hb _ _ _ _ ?_)
  refine wpAny_newFunctionEnv_cells S.kind hkind fun env he s1 x => ?_
  subst he
  refine ⟨lim.keeps x.toInCall.keep, codeAny_func ?_⟩
  obtain ⟨t, ht, hq⟩ := hbody A outer s H vs Q E (hr.deeper _) hsp
  have I : Inv (cxOf CX P w K mg base N qual scope f cdv A outer s H E) [] (start N vs) H s1 := inv_start S hr.hd e0 hl r x
  refine wpAny_mono (ht [] s1 (start N vs) H _ I hq) (fun fl s' hs => ?_) fun e s' hs => hs
  have fin : ∀ {σ' : St} {H' : Hp} {v : V} {u : Value}, Inv (cxOf CX P w K mg base N qual scope f cdv A outer s H E) [] σ' H' s' → RelV v u → Q v H' → CE outer P w H s Q u s' :=
    fun {σ' H' v u} J rv q => ⟨v, H', J.os, J.bare, J.base, J.hok, rv, q⟩
  cases fl with
  | ret u =>
    obtain ⟨v, σ', H', J, rv, q⟩ := hs
    exact fin J rv q
  | next =>
    obtain ⟨σ', H', J, q⟩ := hs
    exact fin (v := V.non) (u := Value.none) J rfl q
  | brk =>
    obtain ⟨_, _, _, q⟩ := hs
    exact False.elim q
  | cont =>
    obtain ⟨_, _, _, q⟩ := hs
    exact False.elim q
end L2
namespace L2
open PySem PySem.Spec PyProof.Rows
section
variable {X : Cx} {x : Str} {p pos : Pos} {e : Expr} {es : List Expr} {t : TA} {id T : String} {r : List V → Hp → VK → Prop}
noncomputable def tCB (r : List V → Hp → VK → Prop) (t : TA) : TE := fun σ H Q => t σ H fun vs H1 => r vs H1 Q
theorem pe_callB (hc : CallR X (.builtin id) r) (hg : Gl X x) (hm : X.mg x = none) (hv : bootBuiltins x = some (.builtin id)) (ha : PA X (e :: es) t) (hn : x ≠ "__name__" := by decide) (hdb : (x == ("__debug__" : Str)) = false := by decide)
    (he : starEach (e :: es) X.env = (false, eval e X.env) :: starEach es X.env := by rfl) (hpl : (backTo pos (starEach es X.env)).any (·.1) = false := by rfl) : PE X (.Call (.Name x p) (e :: es) [] pos) (tCB r t) := by
  intro pins s σ H Q I h
  refine wpAny_Call_Name_kw (ld_blt I hg hm hv ?_ hn hdb)
  exact PyProof.Rows.callWith_builtin1 (thn (ha pos pins s σ H _ I h) fun us s1 ⟨vs, H1, I1, r1, q1⟩ => hc pins s1 σ H1 vs us Q I1 r1 q1) he hpl
theorem pe_callTy (hc : CallR X (.type T) r) (hg : Gl X x) (hm : X.mg x = none) (hv : bootBuiltins x = some (.type T)) (ha : PA X (e :: es) t) (hn : x ≠ "__name__" := by decide) (hdb : (x == ("__debug__" : Str)) = false := by decide)
    (he : starEach (e :: es) X.env = (false, eval e X.env) :: starEach es X.env := by rfl) (hpl : (backTo pos (starEach es X.env)).any (·.1) = false := by rfl) : PE X (.Call (.Name x p) (e :: es) [] pos) (tCB r t) := by
  intro pins s σ H Q I h
  refine wpAny_Call_Name_kw (ld_blt I hg hm hv ?_ hn hdb)
  exact PyProof.Rows.callWith_type1 (thn (ha pos pins s σ H _ I h) fun us s1 ⟨vs, H1, I1, r1, q1⟩ => hc pins s1 σ H1 vs us Q I1 r1 q1) he hpl
end
end L2
namespace HT
open PySem PyProof.Rows
section
open PySem.SeqAt
open PySem.AutoSeq1 (wpAny_loadPart')
open PySem.MeetsSeq PySem.MeetsSeq2 PySem.MeetsSeq3
end
section
variable {prog : Program} {w : World} {A : Around} {E : Value → Shared → Prop} {s : Shared}
noncomputable def sIx (n d : Nat) : Option Int → Nat
  | none => d
  | some v => if v < 0 then (v + (n : Int)).toNat else min v.toNat n
end
end HT
namespace L2
open PySem PySem.Spec PyProof.Rows
noncomputable abbrev TO := St → Hp → (Option Int → Hp → Prop) → Prop
section
variable {X : Cx} {e : Expr} {te : TE} {lo hi : Option Expr} {tl th : TO} {pos p2 : Pos}
noncomputable def SlR (X : Cx) (r : V → Option Int → Option Int → Hp → VK → Prop) : Prop :=
  ∀ (pins : List (Addr × Obj)) (s : Shared) (σ : St) (H : Hp) (x : V) (v vl vu : Value) (lo hi : Option Int) (sl : Addr) (Q : VK), Inv X pins σ H s → RelV x v → s.heap.IsSliceOf sl vl vu .none → IsPart vl lo → IsPart vu hi → r x lo hi H Q →
    ∃ T id, typeLookup (.type T) "__getitem__" = pure (some (.builtin id)) ∧ s.TypeIs v T ∧ wpAny (model X.prog X.w) X.A (getItem v (.ref sl)) (EP X pins σ Q) X.xe s
theorem SlR.or {r r' : V → Option Int → Option Int → Hp → VK → Prop} (h : SlR X r) (h' : SlR X r') : SlR X (fun x lo hi H Q => r x lo hi H Q ∨ r' x lo hi H Q) := by
  intro pins s σ H x v vl vu lo hi sl Q I rx hs pl pu q
  rcases q with q | q
  · exact h pins s σ H x v vl vu lo hi sl Q I rx hs pl pu q
  · exact h' pins s σ H x v vl vu lo hi sl Q I rx hs pl pu q
noncomputable def cutV (xs : List V) (lo hi : Option Int) : List V := (xs.drop (HT.sIx xs.length 0 lo)).take (HT.sIx xs.length xs.length hi - HT.sIx xs.length 0 lo)
end
end L2
namespace L2
open PySem PySem.Spec PyProof.Rows
noncomputable def ixN (n : Nat) (i : Int) : Option Nat := if 0 ≤ i then (if i < n then some i.toNat else none) else if -(n : Int) ≤ i then some (i + n).toNat else none
noncomputable def atI {α : Type} (xs : List α) (i : Int) : Option α := (ixN xs.length i).bind fun j => xs[j]?
theorem ixN_seq {n : Nat} {i : Int} {j : Nat} (h : ixN n i = some j) : seqIndex? i n = some j ∧ j < n ∧ -(n : Int) ≤ i ∧ i < n := by
  unfold ixN at h
  by_cases h0 : 0 ≤ i
  · rw [if_pos h0] at h
    by_cases h1 : i < n
    · rw [if_pos h1] at h
      have e : i.toNat = j := Option.some.inj h
      exact ⟨by rw [seqIndex_of h0 h1, e], by omega, by omega, h1⟩
    · rw [if_neg h1] at h; cases h
  · rw [if_neg h0] at h
    by_cases h1 : -(n : Int) ≤ i
    · rw [if_pos h1] at h
      have e : (i + n).toNat = j := Option.some.inj h
      exact ⟨by rw [seqIndex_neg (by omega) h1, e], by omega, h1, by omega⟩
    · rw [if_neg h1] at h; cases h
theorem atI_get {α : Type} {xs : List α} {i : Int} {v : α} (h : atI xs i = some v) : ∃ j, seqIndex? i xs.length = some j ∧ xs[j]? = some v ∧ j < xs.length ∧ -(xs.length : Int) ≤ i ∧ i < xs.length := by
  unfold atI at h
  cases e : ixN xs.length i with
  | none => rw [e] at h; cases h
  | some j =>
    rw [e] at h
    obtain ⟨h1, h2, h3, h4⟩ := ixN_seq e
    exact ⟨j, h1, h, h2, h3, h4⟩
noncomputable def PlainIx (b : Expr) : Prop := ∀ o i, subscripted b false o i = operate [o, i] (getItem o i)
noncomputable def IxR (X : Cx) (r : R2) : Prop :=
  ∀ (value slice : Expr) (pins : List (Addr × Obj)) (s : Shared) (σ : St) (H : Hp) (x y : V) (v u : Value) (Q : VK), Inv X pins σ H s → RelV x v → RelV y u → r x y H Q →
    subscripted slice false v u = operate [v, u] (getItem v u) → wpAny (model X.prog X.w) X.A (subscriptTail value slice v u) (EP X pins σ Q) X.xe s
noncomputable def MtR (X : Cx) (id : String) (r : V → List V → Hp → VK → Prop) : Prop :=
  ∀ (pins : List (Addr × Obj)) (s : Shared) (σ : St) (H : Hp) (x : V) (xs : List V) (v : Value) (us : List Value) (Q : VK), Inv X pins σ H s → RelV x v → Vals xs us → r x xs H Q →
    wpAny (model X.prog X.w) X.A (call (.builtin id) (v :: us)) (EP X pins σ Q) X.xe s
section
variable {X : Cx} {a b : Expr} {ta tb : TE} {pos : Pos}
theorem IxR.or {r r' : R2} (h : IxR X r) (h' : IxR X r') : IxR X (fun x y H Q => r x y H Q ∨ r' x y H Q) := by
  intro value slice pins s σ H x y v u Q I rx ry q hs
  rcases q with q | q
  · exact h value slice pins s σ H x y v u Q I rx ry q hs
  · exact h' value slice pins s σ H x y v u Q I rx ry q hs
theorem MtR.or {id : String} {r r' : V → List V → Hp → VK → Prop} (h : MtR X id r) (h' : MtR X id r') : MtR X id (fun x xs H Q => r x xs H Q ∨ r' x xs H Q) := by
  intro pins s σ H x xs v us Q I rx rs q
  rcases q with q | q
  · exact h pins s σ H x xs v us Q I rx rs q
  · exact h' pins s σ H x xs v us Q I rx rs q
theorem pe_ix {r : R2} (hr : IxR X r) (ha : PE X a ta) (hb : PE X b tb) (hs : PlainIx b) : PE X (.Subscript a b pos) (tOp r ta tb) := by
  intro pins s σ H Q I h
  exact Subscript_ (binT ha hb I h fun v u s2 x y H2 I2 rx ry q => hr a b pins s2 σ H2 x y v u Q I2 rx ry q (hs _ _))
noncomputable def rIxL (K : PySem.W.Frag) : R2 := fun x y H Q => ∃ p xs i v, x = .ref p ∧ y = .int i ∧ SqL K H p xs ∧ atI xs i = some v ∧ Q v H
noncomputable def rIxT (K : PySem.W.Frag) : R2 := fun x y H Q => ∃ p xs i v, x = .ref p ∧ y = .int i ∧ SqT K H p xs ∧ atI xs i = some v ∧ Q v H
noncomputable def rIxS : R2 := fun x y H Q => ∃ z i c, x = .str z ∧ y = .int i ∧ z.length ≤ sizeLine ∧ atI z.cps.toList i = some c ∧ Q (.str ⟨#[c]⟩) H
theorem ix_list : IxR X (rIxL X.K) := by
  intro value slice pins s σ H x y v u Q I rx ry h hs
  obtain ⟨p, xs, i, z, rfl, rfl, hq, he, q⟩ := h
  cases rx
  obtain ⟨t, rfl⟩ := ry
  obtain ⟨its, r, pl, hz⟩ := I.list hq
  obtain ⟨j, h1, h2, h3, h4, h5⟩ := atI_get he
  obtain ⟨w, ew, rw'⟩ := r.get h2
  have hl := r.length
  have hn := line63
  have fin : EP X pins σ Q w s := ⟨z, H, I, rw', q⟩
  by_cases h0 : 0 ≤ i
  · have hj : i.toNat = j := by
      rw [seqIndex_of h0 h5] at h1
      exact Option.some.inj h1
    exact item_listR pl.isList h0 (by omega) (by rw [hj]; simpa using ew) fin hs
  · have hj : (i + (its.toArray.size : Int)).toNat = j := by
      rw [seqIndex_neg (by omega) h4] at h1
      rw [List.size_toArray, ← hl]
      exact Option.some.inj h1
    exact subscriptTail_builtinR (x := w) pl.isList.typeIs slot_list_getitem.lookup
      (wpAny_getItem_list_neg (Q := fun r s' => r = w ∧ EP X pins σ Q r s') pl.isList (by omega) (by rw [List.size_toArray] <;> omega) (by omega) (by rw [hj]; simpa using ew) ⟨rfl, fin⟩) hs
theorem ix_tup : IxR X (rIxT X.K) := by
  intro value slice pins s σ H x y v u Q I rx ry h hs
  obtain ⟨p, xs, i, z, rfl, rfl, hq, he, q⟩ := h
  cases rx
  obtain ⟨t, rfl⟩ := ry
  obtain ⟨its, r, pl, hz⟩ := I.tuple hq
  obtain ⟨j, h1, h2, h3, h4, h5⟩ := atI_get he
  obtain ⟨w, ew, rw'⟩ := r.get h2
  have hl := r.length
  have hn := line63
  have fin : EP X pins σ Q w s := ⟨z, H, I, rw', q⟩
  exact subscriptTail_builtinR (x := w) pl.typeIs slot_tuple_getitem.lookup
    (getItem_tuple (j := j) (Q := fun r s' => r = w ∧ EP X pins σ Q r s') pl (by omega) (by omega) (by rw [List.size_toArray, ← hl]; exact h1) (by simpa using ew) ⟨rfl, fin⟩) hs
theorem ix_str : IxR X rIxS := by
  intro value slice pins s σ H x y v u Q I rx ry h hs
  obtain ⟨z, i, c, rfl, rfl, hz, he, q⟩ := h
  obtain ⟨t, rfl⟩ := rx
  obtain ⟨t', rfl⟩ := ry
  obtain ⟨j, h1, h2, h3, h4, h5⟩ := atI_get he
  have hl : z.cps.toList.length = z.length := by simp [Str.length]
  rw [hl] at h1 h4 h5
  have hn := line63
  exact tail_any (typeIs_str s z t) slot_str_getitem.lookup (getItem_str (c := c) (by
    have e1 : decide (i < -(2 ^ 63 : Int)) = false := decide_eq_false (by omega)
    have e2 : decide (i ≥ 2 ^ 63) = false := decide_eq_false (by omega)
    rw [e1, e2, Bool.or_false]) (by rw [h1]; simpa using h2) ⟨.str ⟨#[c]⟩, H, I.tok _, ⟨_, rfl⟩, q⟩) hs
noncomputable def rIx (K : PySem.W.Frag) : R2 := fun x y H Q => rIxL K x y H Q ∨ rIxT K x y H Q ∨ rIxS x y H Q
theorem ix_seq : IxR X (rIx X.K) := ix_list.or (ix_tup.or ix_str)
theorem Inv.lst {pins : List (Addr × Obj)} {σ : St} {H : Hp} {s : Shared} {p : Addr} {xs : List V} (I : Inv X pins σ H s) (h : H p = some (.lst xs)) :
    ∃ (its : List Value) (n : Nat), Vals xs its ∧ s.heap.get? p = some { cls := .type "list", data := .seq its.toArray n } ∧ xs.length ≤ sizeLine := by
  obtain ⟨z, its, n, r, e⟩ := I.hok p _ h
  exact ⟨its, n, r, e, z⟩
noncomputable def flatV : V → Bool
  | .non => true
  | .bl _ => true
  | .int _ => true
  | .str _ => true
  | _ => false
noncomputable def eqV : V → V → Bool
  | .non, .non => true
  | .bl a, .bl b => a == b
  | .bl a, .int b => (if a then 1 else 0) == b
  | .int a, .bl b => a == (if b then 1 else 0)
  | .int a, .int b => a == b
  | .str a, .str b => a == b
  | _, _ => false
theorem eqAt_V {A : Around} {s : Shared} {y x : V} {u v : Value} (ry : RelV y u) (rx : RelV x v) (fy : flatV y = true) (fx : flatV x = true) : SeqAt.EqAt A s u v (eqV y x) := by
  cases y with
  | non =>
    cases ry
    cases x with
    | non => cases rx; exact SeqAt.EqAt.same _
    | bl b => cases rx; exact SeqAt.EqAt.none_bool b
    | int b => obtain ⟨t, rfl⟩ := rx; exact SeqAt.EqAt.none_int b t
    | str b => obtain ⟨t, rfl⟩ := rx; exact SeqAt.EqAt.none_str b t
    | _ => exact absurd (show false = true from fx) Bool.false_ne_true
  | bl a =>
    cases ry
    cases x with
    | non => cases rx; exact SeqAt.EqAt.bool_none a
    | bl b => cases rx; exact SeqAt.EqAt.bool_bool a b
    | int b => obtain ⟨t, rfl⟩ := rx; exact SeqAt.EqAt.bool_int a b t
    | str b => obtain ⟨t, rfl⟩ := rx; exact SeqAt.EqAt.bool_str a b t
    | _ => exact absurd (show false = true from fx) Bool.false_ne_true
  | int a =>
    obtain ⟨t', rfl⟩ := ry
    cases x with
    | non => cases rx; exact SeqAt.EqAt.int_none a t'
    | bl b => cases rx; exact SeqAt.EqAt.int_bool a t' b
    | int b => obtain ⟨t, rfl⟩ := rx; exact SeqAt.EqAt.int_int a t' b t
    | str b => obtain ⟨t, rfl⟩ := rx; exact SeqAt.EqAt.int_str a t' b t
    | _ => exact absurd (show false = true from fx) Bool.false_ne_true
  | str a =>
    obtain ⟨t', rfl⟩ := ry
    cases x with
    | non => cases rx; exact SeqAt.EqAt.str_none a t'
    | bl b => cases rx; exact SeqAt.EqAt.str_bool a t' b
    | int b => obtain ⟨t, rfl⟩ := rx; exact SeqAt.EqAt.str_int a t' b t
    | str b => obtain ⟨t, rfl⟩ := rx; exact SeqAt.EqAt.str_str a t' b t
    | _ => exact absurd (show false = true from fx) Bool.false_ne_true
  | _ => exact absurd (show false = true from fy) Bool.false_ne_true
noncomputable def eqU (x : V) (u : Value) : Bool := match u with
  | .none => eqV .non x
  | .bool b => eqV (.bl b) x
  | .int i _ => eqV (.int i) x
  | .str z _ => eqV (.str z) x
  | _ => false
theorem eqU_of {x y : V} {u : Value} (r : RelV y u) (f : flatV y = true) : eqU x u = eqV y x := by
  cases y with
  | non => cases r; rfl
  | bl b => cases r; rfl
  | int i => obtain ⟨t, rfl⟩ := r; rfl
  | str z => obtain ⟨t, rfl⟩ := r; rfl
  | _ => exact absurd (show false = true from f) Bool.false_ne_true
theorem any_eqU {x : V} : ∀ {xs : List V} {us : List Value}, Vals xs us → xs.all flatV = true → us.any (eqU x) = xs.any fun y => eqV y x
  | _, _, .nil, _ => rfl
  | y :: xs, u :: us, .cons r t, f => by
    rw [List.all_cons, Bool.and_eq_true] at f
    rw [List.any_cons, List.any_cons, eqU_of r f.1, any_eqU t f.2]
theorem mem_eqAt {A : Around} {s : Shared} {x : V} {v : Value} (rx : RelV x v) (fx : flatV x = true) : ∀ {xs : List V} {us : List Value}, Vals xs us → xs.all flatV = true → ∀ u ∈ us, SeqAt.EqAt A s u v (eqU x u)
  | _, _, .nil, _ => fun u hu => by cases hu
  | y :: xs, u :: us, .cons r t, f => fun u' hu => by
    rw [List.all_cons, Bool.and_eq_true] at f
    rcases List.mem_cons.mp hu with rfl | hu
    · rw [eqU_of r f.1]; exact eqAt_V r rx f.1 fx
    · exact mem_eqAt rx fx t f.2 u' hu
noncomputable def inV (x : V) (xs : List V) : Bool := xs.any fun y => eqV y x
noncomputable def rIn (K : PySem.W.Frag) (neg : Bool) : R2 := fun x y H Q => ∃ p xs, y = .ref p ∧ (SqL K H p xs ∨ SqT K H p xs) ∧ flatV x = true ∧ xs.all flatV = true ∧ Q (.bl (if neg then !inV x xs else inV x xs)) H
theorem op_in_seq : OpR X (compareOp .In) (rIn X.K false) := by
  intro pins s σ H x y v u Q I rx ry h
  obtain ⟨p, xs, rfl, hq, fx, fs, q⟩ := h
  cases ry
  rcases hq with hq | hq
  · obtain ⟨its, r, pl, hz⟩ := I.list hq
    refine SeqAt.in_listAt (eqU x) pl.isList (fun w hw => mem_eqAt rx fx r fs w (by simpa using hw)) ⟨.bl _, H, I, rfl, ?_⟩
    rw [show its.toArray.any (eqU x) = its.any (eqU x) by simp, any_eqU r fs]
    exact q
  · obtain ⟨its, r, pl, hz⟩ := I.tuple hq
    refine SeqAt.in_tupleAt (eqU x) pl (fun w hw => mem_eqAt rx fx r fs w (by simpa using hw)) ⟨.bl _, H, I, rfl, ?_⟩
    rw [show its.toArray.any (eqU x) = its.any (eqU x) by simp, any_eqU r fs]
    exact q
theorem op_notIn_seq : OpR X (compareOp .NotIn) (rIn X.K true) := by
  intro pins s σ H x y v u Q I rx ry h
  obtain ⟨p, xs, rfl, hq, fx, fs, q⟩ := h
  cases ry
  rcases hq with hq | hq
  · obtain ⟨its, r, pl, hz⟩ := I.list hq
    refine SeqAt.notIn_listAt (eqU x) pl.isList (fun w hw => mem_eqAt rx fx r fs w (by simpa using hw)) ⟨.bl _, H, I, rfl, ?_⟩
    rw [show its.toArray.any (eqU x) = its.any (eqU x) by simp, any_eqU r fs]
    exact q
  · obtain ⟨its, r, pl, hz⟩ := I.tuple hq
    refine SeqAt.notIn_tupleAt (eqU x) pl (fun w hw => mem_eqAt rx fx r fs w (by simpa using hw)) ⟨.bl _, H, I, rfl, ?_⟩
    rw [show its.toArray.any (eqU x) = its.any (eqU x) by simp, any_eqU r fs]
    exact q
theorem op_notIn_str : OpR X (compareOp .NotIn) (fun x y H Q => ∃ i j, x = .str i ∧ y = .str j ∧ Q (.bl (!(!(Builtin.Str.occurrences j i 0 j.length 1).isEmpty))) H) := by
  intro pins s σ H x y v u Q I rx ry h
  obtain ⟨i, j, rfl, rfl, q⟩ := h
  obtain ⟨t, rfl⟩ := rx
  obtain ⟨t', rfl⟩ := ry
  exact notIn_str ⟨.bl _, H, I, rfl, q⟩
theorem call_len_seq : CallR X (.builtin "len") (fun xs H Q => ∃ p ys, xs = [.ref p] ∧ (SqL X.K H p ys ∨ SqT X.K H p ys) ∧ Q (.int ys.length) H) := by
  intro pins s σ H xs us Q I r h
  obtain ⟨p, ys, rfl, hq, q⟩ := h
  obtain ⟨u, rfl, rx⟩ := vals1 r
  cases rx
  have hn := line63
  rcases hq with hq | hq
  · obtain ⟨its, r', pl, hz⟩ := I.list hq
    have hlen := r'.length
    exact Calls.call_len_list pl.isList (by simp only [List.size_toArray] <;> omega) ⟨.int ys.length, H, I.tok _, ⟨s.toks + 1, by rw [List.size_toArray, hlen]⟩, q⟩
  · obtain ⟨its, r', pl, hz⟩ := I.tuple hq
    have hlen := r'.length
    exact len_tuple pl (by simp only [List.size_toArray] <;> omega) ⟨.int ys.length, H, I.tok _, ⟨s.toks + 1, by rw [List.size_toArray, hlen]⟩, q⟩
theorem call_len_str : CallR X (.builtin "len") (fun xs H Q => ∃ z, xs = [.str z] ∧ z.length ≤ sizeLine ∧ Q (.int z.length) H) := by
  intro pins s σ H xs us Q I r h
  obtain ⟨z, rfl, hz, q⟩ := h
  obtain ⟨u, rfl, t, rfl⟩ := vals1 r
  have hn := line63
  exact len_str (by omega) ⟨.int z.length, H, I.tok _, ⟨_, rfl⟩, q⟩
theorem CallR.or {f : Value} {r r' : List V → Hp → VK → Prop} (h : CallR X f r) (h' : CallR X f r') : CallR X f (fun xs H Q => r xs H Q ∨ r' xs H Q) := by
  intro pins s σ H xs us Q I rs q
  rcases q with q | q
  · exact h pins s σ H xs us Q I rs q
  · exact h' pins s σ H xs us Q I rs q
theorem call_list_of : CallR X (.type "list") (fun xs H Q => ∃ p ys, xs = [.ref p] ∧ (SqL X.K H p ys ∨ SqT X.K H p ys) ∧ ∀ l, H l = none → Q (.ref l) (upd H l (.lst ys))) := by
  intro pins s σ H xs us Q I r h
  obtain ⟨p, ys, rfl, hq, q⟩ := h
  obtain ⟨u, rfl, rx⟩ := vals1 r
  cases rx
  have fin : ∀ (its : List Value), Vals ys its → ys.length ≤ sizeLine → ∀ (h' : Heap) (c' : Nat), (∀ b o', s.heap.get? b = some o' → h'.get? b = some o') →
      h'.get? s.heap.objs.size = some { cls := .type "list", dict := none, data := .seq its.toArray c', slots := #[] } → EP X pins σ Q (.ref s.heap.objs.size) { s with heap := h' } := fun its r' hz h' c' kp e =>
    ⟨.ref s.heap.objs.size, _, I.laid (t' := s.toks) kp (Nat.le_refl _) (show ObjOk X.prog X.w _ h' _ (.lst ys) from ⟨hz, its, c', r', e⟩), rfl, q _ (I.hok.fresh (Nat.le_refl _))⟩
  rcases hq with hq | hq
  · obtain ⟨its, r', pl, hz⟩ := I.list hq
    have hlen := r'.length
    obtain ⟨o, ho, hc, n, hd⟩ := pl.isList
    exact call_list_seq p (.inl rfl) ho hc hd (fun h' c' kp e => fin its r' hz h' c' kp e) (by simp only [List.size_toArray] <;> omega)
  · obtain ⟨its, r', pl, hz⟩ := I.tuple hq
    have hlen := r'.length
    obtain ⟨o, ho, hc, n, hd⟩ := pl
    exact call_list_seq p (.inr rfl) ho hc hd (fun h' c' kp e => fin its r' hz h' c' kp e) (by simp only [List.size_toArray] <;> omega)
noncomputable def tyV (K : PySem.W.Frag) (T : String) (x : V) (H : Hp) : Prop := match x with
  | .str _ => T = "str"
  | .int _ => T = "int"
  | .ref p => (T = "list" ∧ ∃ xs, SqL K H p xs) ∨ (T = "tuple" ∧ ∃ o, K.lookup p = some o ∧ o.cls = .type "tuple" ∧ o.dict = none) ∨
      (T = "dict" ∧ ((∃ kvs, H p = some (.dK kvs)) ∨ ∃ kvs, H p = some (.dT kvs))) ∨ (T = "set" ∧ ∃ S n, H p = some (.set S n))
  | _ => False
theorem tyV_is {pins : List (Addr × Obj)} {σ : St} {H : Hp} {s : Shared} {T : String} {x : V} {v : Value} (I : Inv X pins σ H s) (r : RelV x v) (ty : tyV X.K T x H) :
    s.TypeIs v T ∧ ∀ a, v = .ref a → ∃ ob, s.heap.get? a = some ob ∧ ob.dict = none := by
  cases x with
  | str z =>
    obtain ⟨t, rfl⟩ := r
    cases (show T = "str" from ty)
    exact ⟨typeIs_str s z t, fun _ e => nomatch e⟩
  | int i =>
    obtain ⟨t, rfl⟩ := r
    cases (show T = "int" from ty)
    exact ⟨typeIs_int s i t, fun _ e => nomatch e⟩
  | ref p =>
    cases r
    rcases ty with ⟨rfl, xs, hq⟩ | ⟨rfl, o, hk, hc, hd⟩ | ⟨rfl, hk⟩ | ⟨rfl, S, n, hk⟩
    · obtain ⟨its, _, pl, _⟩ := I.list hq
      refine ⟨pl.isList.typeIs, fun a e => ?_⟩
      cases e
      obtain ⟨o, n, e, c, hd, _⟩ := pl
      exact ⟨o, e, hd⟩
    · refine ⟨⟨o, I.kIn p o hk, hc⟩, fun a e => ?_⟩
      cases e
      exact ⟨o, I.kIn _ o hk, hd⟩
    · have z : ∃ o, s.heap.get? p = some o ∧ o.ExactDict := by
        rcases hk with ⟨kvs, hk⟩ | ⟨kvs, hk⟩
        · obtain ⟨_, _, _, _, o, _, _, e, ex, _⟩ := I.hok p _ hk
          exact ⟨o, e, ex⟩
        · obtain ⟨_, _, _, _, o, _, _, e, ex, _⟩ := I.hok p _ hk
          exact ⟨o, e, ex⟩
      obtain ⟨o, e, ex⟩ := z
      refine ⟨⟨o, e, ex.1⟩, fun a e2 => ?_⟩
      cases e2
      exact ⟨o, e, ex.2.1⟩
    · obtain ⟨o, _, _, _, e, ex, _⟩ := I.hok p _ hk
      refine ⟨⟨o, e, ex.1⟩, fun a e2 => ?_⟩
      cases e2
      exact ⟨o, e, ex.2.1⟩
  | _ => exact False.elim ty
noncomputable def tBM (K : PySem.W.Frag) (T : String) (r : V → List V → Hp → VK → Prop) (to : TE) (t : TA) : TE := fun σ H Q => to σ H fun x H1 => tyV K T x H1 ∧ t σ H1 fun xs H2 => r x xs H2 Q
variable {o e : Expr} {es : List Expr} {to : TE} {t : TA} {name : Str} {apos cpos : Pos} {T id : String} {r : V → List V → Hp → VK → Prop}
theorem pe_bm (pa : PlainAttrs T) (slot : Slot T name id) (hty : typeOf (.builtin id) = pure (.type "method_descriptor")) (hm : MtR X id r) (ho : PE X o to) (ha : PA X (e :: es) t)
    (hbase : attributeBase o name X.env (eval o X.env) = eval o X.env := by rfl)
    (hfew : ((backTo cpos (starEach (e :: es) X.env)).all (fun x => !x.1) && (backToKw cpos (keywordEach [] X.env)).all (fun x => x.1.isSome)
      && decide ((e :: es).length + ([] : List Keyword).length + (if ([] : List Keyword).isEmpty then 0 else 1) < 30)) = true := by rfl)
    (hline : (apos.endLine == cpos.line) = true := by rfl) (hs : starEach (e :: es) X.env = (false, eval e X.env) :: starEach es X.env := by rfl) (hplain : (backTo cpos (starEach es X.env)).any (·.1) = false := by rfl) :
    PE X (.Call (.Attribute o name apos) (e :: es) [] cpos) (tBM X.K T r to t) := by
  intro pins s σ H Q I h
  refine wpAny_Call_method_late hbase hfew hline rfl (thn (ho pins s σ H _ I h) fun v s1 ⟨x, H1, I1, r1, ty, q1⟩ => ?_)
  obtain ⟨h1, h2⟩ := tyV_is I1 r1 ty
  refine ⟨T, id, pa, slot, hty, h1, h2, ?_⟩
  have hA := ha cpos pins s1 σ H1 _ I1 q1
  rw [hs] at hA ⊢
  refine Calls.callWith_builtin (by show (false || (backTo cpos (starEach es X.env)).any (·.1)) = false; rw [hplain] <;> rfl) (Calls.evalArgs_plain ?_)
  exact thn hA fun us s2 ⟨vs, H2, I2, r2, q2⟩ => hm pins s2 σ H2 x vs v us Q I2 r1 r2 q2
end
end L2
namespace L2
open PySem PySem.Spec PyProof.Rows
noncomputable def MtM (X : Cx) (id : String) (r : V → List V → Hp → VK → Prop) : Prop :=
  ∀ (pins : List (Addr × Obj)) (s : Shared) (σ : St) (H : Hp) (x : V) (xs : List V) (v : Value) (us : List Value) (Q : VK), Inv X pins σ H s → RelV x v → Vals xs us → r x xs H Q →
    wpAny (model X.prog X.w) X.A (call (.builtin id) (v :: us)) (EP X pins σ Q) X.xe s
theorem Vals.one : ∀ {x : V} {us : List Value}, Vals [x] us → ∃ u, us = [u] ∧ RelV x u
  | _, _, .cons r .nil => ⟨_, rfl, r⟩
theorem Vals.two : ∀ {x y : V} {us : List Value}, Vals [x, y] us → ∃ u v, us = [u, v] ∧ RelV x u ∧ RelV y v
  | _, _, _, .cons r (.cons q .nil) => ⟨_, _, rfl, r, q⟩
theorem Vals.zero : ∀ {us : List Value}, Vals [] us → us = []
  | _, .nil => rfl
theorem Vals.eraseIdx : ∀ {xs : List V} {us : List Value} (i : Nat), Vals xs us → Vals (xs.eraseIdx i) (us.eraseIdx i)
  | _, _, _, .nil => .nil
  | _, _, 0, .cons _ t => t
  | _, _, i + 1, .cons r t => .cons r (Vals.eraseIdx i t)
theorem Vals.reverse {xs : List V} {us : List Value} (h : Vals xs us) : Vals xs.reverse us.reverse := by
  induction h with
  | nil => exact .nil
  | cons r t ih => rw [List.reverse_cons, List.reverse_cons]; exact Vals.append ih (.cons r .nil)
theorem Vals.rep {xs : List V} {us : List Value} (h : Vals xs us) : ∀ k : Nat, Vals (List.replicate k xs).flatten (List.replicate k us).flatten
  | 0 => .nil
  | k + 1 => by
    rw [List.replicate_succ, List.replicate_succ, List.flatten_cons, List.flatten_cons]
    exact Vals.append h (Vals.rep h k)
section
variable {X : Cx} {pins : List (Addr × Obj)} {σ : St} {H : Hp} {s : Shared} {l b : Addr} {xs ys zs : List V}
theorem Inv.lset {its its' : List Value} {n : Nat} {f : Array Value → Array Value} {t' : Nat} (I : Inv X pins σ H s) (hH : H l = some (.lst xs))
    (e : s.heap.get? l = some { cls := .type "list", data := .seq its.toArray n }) (hf : f its.toArray = its'.toArray) (hv : Vals ys its') (hz : ys.length ≤ sizeLine) :
    Inv X pins σ (upd H l (.lst ys)) { s with heap := s.heap.update l (Obj.mapSeq f), toks := t' } := by
  have q := PySem.IsL.update e f
  rw [hf] at q
  refine I.write (x := l) (e := l) (by rw [hH]; exact trivial) (.inl rfl) (fun b' u hb hu => (Heap.get?_update_other s.heap (Obj.mapSeq f) (Ne.symm hb)).trans hu) ⟨_, q⟩ ?_
  exact ⟨hz, its', _, hv, q⟩
theorem Inv.lnew {its : List Value} {t' : Nat} (I : Inv X pins σ H s) (hv : Vals ys its) (hz : ys.length ≤ sizeLine) :
    Inv X pins σ (upd H s.heap.objs.size (.lst ys)) { s with heap := s.heap.push { cls := .type "list", data := .seq its.toArray }, toks := t' } :=
  I.laid (fun _ _ q => Heap.get?_push_of_some _ q) (Nat.le_refl _) ⟨hz, its, 0, hv, Heap.get?_push_size _ rfl⟩
theorem Inv.fresh (I : Inv X pins σ H s) : H s.heap.objs.size = none := I.hok.fresh (Nat.le_refl _)
theorem Inv.lstM (I : Inv X pins σ H s) (hH : H l = some (.lst xs)) : xs.length ≤ sizeLine ∧ ∃ (its : List Value) (n : Nat), Vals xs its ∧ xs.length = its.length ∧ s.heap.get? l = some { cls := .type "list", data := .seq its.toArray n } := by
  obtain ⟨z, its, n, r, e⟩ := I.hok l _ hH
  exact ⟨z, its, n, r, r.length, e⟩
end
section
variable {X : Cx}
noncomputable def rAppend : V → List V → Hp → VK → Prop := fun x vs H Q => ∃ l xs y, x = .ref l ∧ vs = [y] ∧ H l = some (.lst xs) ∧ xs.length < sizeLine ∧ Q .non (upd H l (.lst (xs ++ [y])))
theorem mt_append : MtM X "list.append" rAppend := by
  intro pins s σ H x vs v us Q I rx rv h
  obtain ⟨l, xs, y, rfl, rfl, hH, hz, q⟩ := h
  cases rx
  obtain ⟨u, rfl, ru⟩ := rv.one
  obtain ⟨z, its, n, r, hl, e⟩ := I.lstM hH
  refine call_meets F.slot_list_append ⟨_, e, rfl⟩ F.entry_list_append (F.args_list_append_2 _ _) (PySem.list_append l its.toArray n u (by rw [List.size_toArray]; omega)) ⟨e, ?_⟩
  refine ⟨.non, _, I.lset (its' := its ++ [u]) hH e (by simp) (r.append (.cons ru .nil)) ?_, rfl, q⟩
  rw [List.length_append, List.length_singleton]
  omega
theorem len_rep {α : Type} (xs : List α) (k : Nat) : (List.replicate k xs).flatten.length = k * xs.length := by
  induction k with
  | zero => simp
  | succ k ih => rw [List.replicate_succ, List.flatten_cons, List.length_append, ih, Nat.succ_mul, Nat.add_comm]
end
end L2
namespace Att
open PySem PySem.W PySem.Calls PyProof.Rows
theorem ints_of_wellAll {P : Params} {h : Heap} : ∀ (ns : List Int) (vs : List Value), WellAll P h vs (ns.map WData.int) → IntsAre vs ns := by
  intro ns
  induction ns with
  | nil =>
    intro vs w
    rw [List.map_nil] at w
    cases w
    exact .nil
  | cons n ns ih =>
    intro vs w
    rw [List.map_cons] at w
    cases w with
    | cons a b =>
      cases a
      exact .cons _ _ (ih _ b)
theorem script_of {l : OpenLaw} {n : Nat} (hn : l.most = some n) {P : Params} {h : Heap} {args : List WData} {vals : List Value}
    (hpre : l.row.toRowW.claim.pre args = true) (hwl : WellAll P h vals args) :
    ∃ a vs ns, vals = [Value.ref a] ∧ args = [WData.list (ns.map WData.int)] ∧ h.get? a = some { cls := .type "list", data := .seq vs.toArray } ∧ IntsAre vs ns ∧ ns.length ≤ n := by
  have hsh : WShape.hasAll [] args [.list .int] = true := (pre_splitW hpre).1
  have hc : l.pre.holds [] { args := args } = true := (pre_splitW hpre).2
  obtain ⟨d, r, rfl, h1, h2⟩ := hasAllW_cons hsh
  obtain rfl := hasAllW_nil h2
  obtain ⟨xs, rfl, h3⟩ := hasW_list h1
  obtain ⟨ns, rfl⟩ := items_int h3
  have hlen : ns.length ≤ n := by
    unfold OpenLaw.pre at hc
    have h4 : (WTm.not (.lt (.lit (.int (n : Int))) (.len (.arg 0)))).holds [] { args := [.list (ns.map .int)] } = true := by
      have h4 := (holds_andW hc).1
      rw [hn] at h4
      exact h4
    have h5 := condW_of h4 (w_not (w_lt w_lit (w_len_list (w_arg rfl))))
    rw [List.length_map] at h5
    refine Nat.le_of_not_lt fun q => ?_
    have q' : (n : Int) < ((ns.length : Nat) : Int) := by omega
    first
      | (rw [decide_eq_true q'] at h5; exact absurd h5 (by decide))
      | (simp at h5; omega)
  cases hwl with
  | cons w1 w2 =>
    cases w2
    cases w1 with
    | list ho hall => exact ⟨_, _, ns, rfl, rfl, ho, ints_of_wellAll ns _ hall, hlen⟩
theorem post_true (l : OpenLaw) (args : List WData) : l.row.toRowW.claim.post args (.bool true) args = true :=
  postW_of (r := l.row.toRowW) (X := (true == true))
    (show WShape.has [] (.bool true) .bool = true by first | rfl | decide | simp [WShape.has, WShape.arms, WShape.armsAll])
    (show (WTm.eq .res (.lit (.bool true))).value [] { args := args, res := some (.bool true), after := args } = some (.bool (true == true)) from w_eq_bool (w_res rfl) w_lit) rfl
theorem attach_call {l : OpenLaw} {n : Nat} {q : Program} {loose : List Str} {XP : (Str → Option Value) → Heap → Prop} {YP : World → Heap → Prop} {d : DefRec}
    (hn : l.most = some n) (hdf : d.params.defaults = [])
    (call : ∀ (w : World) (s₀ s₁ : Shared) (mg mb : Str → Option Value) (fa : Addr) (o : Obj) (pm cd doc : Value) (a : Addr) (vs : List Value) (ns : List Int),
      Ground q loose [] XP w s₀ mg mb s₁.heap → YP w s₁.heap →
      s₁.heap.get? fa = some o → o.data = .func (docDef d.name d.params d.body d.scope pm cd doc) → s₁.heap.CodeRec cd d.name → mg d.name = some (.ref fa) →
      s₁.heap.get? a = some { cls := .type "list", data := .seq vs.toArray } → IntsAre vs ns → ns.length ≤ n → s₁.gens = #[] →
      codeAny (model l.prog w) callerA (.call (.ref fa) ⟨[.ref a], []⟩) (fun r s' => r = .ok (.ret (.bool true)) ∧ OldK s₁.heap s'.heap ∧ s'.os = s₁.os ∧ AllBare s'.gens) s₁) :
    WalkO q loose XP YP l.row.toRowW d [] (fun f vs => PySem.call f vs) := by
  intro w s₀ s₁ mg mb G Y fa o pm cd doc dV kV ho hd hcd hD hmg hg args vals as hpre hlay hrd hwl hlo
  obtain rfl : dV = .none := Dflts.none hD hdf
  obtain rfl : kV = .none := Dflts.noKw hD
  obtain ⟨a, vs, ns, rfl, rfl, hobj, hints, hlen⟩ := script_of hn hpre hwl
  refine enter_call (codeAny_mono (call w s₀ s₁ mg mb fa o pm cd doc a vs ns G Y ho (fd_plain hd) hcd hmg hobj hints hlen hg) fun r s' hq => ?_)
  obtain ⟨rfl, h2, h3, h4⟩ := hq
  exact ⟨.inl ⟨.bool true, .bool true, [], rfl, fun _ => rfl, .bool true, post_true l _, fun _ => ⟨List.Pairwise.nil, fun _ hm => (nomatch hm)⟩⟩, h2, h3, h4⟩
end Att
namespace L2
open PySem PySem.Spec PyProof.Rows
theorem vals_ints : ∀ {vs : List Value} {ns : List Int}, IntsAre vs ns → Vals (ns.map V.int) vs
  | _, _, .nil => .nil
  | _, _, .cons n t h => .cons ⟨t, rfl⟩ (vals_ints h)
theorem ObjOk.tbl0 {P : Program} {w : World} {H : Hp} {h : Heap} {b : Addr} {q : Str} (e : h.get? b = some (PySem.W.tabObj #[])) : ObjOk P w H h b (.tbl q) := ⟨#[], e, trivial, fun pos cv z => by cases z⟩
end L2
namespace L2
open PySem PySem.Spec PyProof.Rows
noncomputable def defArgs (s : Stmt) : Arguments := match s with
  | .FunctionDef _ a _ _ _ _ _ _ _ _ => a
  | _ => { posonlyargs := [], args := [], vararg := none, kwonlyargs := [], kw_defaults := [], kwarg := none, defaults := [] }
noncomputable def defBody (s : Stmt) : List Stmt := match s with
  | .FunctionDef _ _ b _ _ _ _ _ _ _ => b
  | _ => []
noncomputable def defScope (s : Stmt) : Scope := match s with
  | .FunctionDef _ _ _ _ _ _ sc _ _ _ => sc
  | _ => { kind := .function, names := [], isGenerator := false, isCoroutine := false }
noncomputable abbrev CX0 : CXT := fun _ _ _ _ _ _ => False
noncomputable abbrev E0 : XK := fun _ _ _ => False
theorem pass0 {X : Cx} : Passes CX0 X E0 := fun _ _ _ _ _ _ _ h => h.elim
structure Fun (K : PySem.W.Frag) (x qual : Str) (st : Stmt) (f : Addr) (fd : FuncData) : Prop where
  ex : ∃ (oc : Value) (od : Option Addr) (kV doc pm : Value) (an : Option Addr) (cdv ct : Value) (osl : Array (Option Value)),
    fd = PySem.W.fnOf x qual (defArgs st) (defBody st) (defScope st) .none kV doc pm an cdv ct ∧ K.lookup f = some ⟨oc, od, .func fd, osl⟩ ∧ PySem.W.codeIn K cdv qual = true
  kp : PySem.W.keepIn K (.ref f) = true
section
variable {P : Program} {w : World} {K : PySem.W.Frag} {mg : Str → Option Value} {base : Heap}
theorem Fun.ok {x qual : Str} {st : Stmt} {f : Addr} {fd : FuncData} {N ps : List Str} {k : Nat} {sp : Sp} (F : Fun K x qual st f fd) (S : FnScope N ps (defScope st)) (len : ∀ vs H Q E, sp vs H Q E → vs.length = ps.length)
    (hbody : ∀ (cdv : Value) (A : Around) (outer : List Env) (s : Shared) (H : Hp) (vs : List V) (Q : VK) (E : XK), Room k (A.deeper (envOfC qual (defScope st) s.heap.objs.size f cdv)) → sp vs H Q E →
      ∃ t, PSs (cxOf CX0 P w K mg base N qual (defScope st) f cdv A outer s H E).nox (defBody st) t ∧ t { nx := fun _ H' => Q .non H', rt := Q } (start N vs) H) : FnOk P w K mg base CX0 (k + 1) f fd ps sp := by
  obtain ⟨oc, od, kV, doc, pm, an, cdv, ct, osl, rfl, lk, hcd⟩ := F.ex
  refine fn_of lk hcd S len fun A outer s H vs Q E hr hsp => ?_
  obtain ⟨t, h, q⟩ := hbody cdv A outer s H vs Q E hr hsp
  exact ⟨t, h.nox, q⟩
theorem Fun.binds {x qual : Str} {st : Stmt} {f : Addr} {fd : FuncData} {ps : List Str} (F : Fun K x qual st f fd)
    (h : ∀ (kV doc pm : Value) (an : Option Addr) (cdv ct : Value) (us : List Value), us.length = ps.length → bindArgs (PySem.W.fnOf x qual (defArgs st) (defBody st) (defScope st) .none kV doc pm an cdv ct) ⟨us, []⟩ = pure (ps.zip us)) : Binds K fd ps [] := by
  obtain ⟨oc, od, kV, doc, pm, an, cdv, ct, osl, rfl, lk, hcd⟩ := F.ex
  exact .all (h kV doc pm an cdv ct)
theorem fun_mk {x qual : Str} {st : Stmt} {f : Addr} {oc : Value} {od an : Option Addr} {osl : Array (Option Value)} {kV doc pm cdv ct : Value} (l : K.lookup f = some ⟨oc, od, .func (PySem.W.fnOf x qual (defArgs st) (defBody st) (defScope st) .none kV doc pm an cdv ct), osl⟩)
    (c : PySem.W.codeIn K cdv qual = true) (k : PySem.W.keepIn K (.ref f) = true) : Fun K x qual st f (PySem.W.fnOf x qual (defArgs st) (defBody st) (defScope st) .none kV doc pm an cdv ct) := ⟨⟨oc, od, kV, doc, pm, an, cdv, ct, osl, rfl, l, c⟩, k⟩
end
noncomputable def Same (H H' : Hp) : Prop := ∀ b o, H b = some o → H' b = some o
theorem Same.refl (H : Hp) : Same H H := fun _ _ h => h
theorem Same.trans {H H1 H2 : Hp} (a : Same H H1) (b : Same H1 H2) : Same H H2 := fun c o h => b c o (a c o h)
theorem Same.free {H H' : Hp} (e : Same H H') {l : Addr} (h : H' l = Option.none) : H l = Option.none := by
  cases q : H l with
  | none => rfl
  | some o =>
    rw [e l o q] at h
    cases h
theorem Same.seq {K : PySem.W.Frag} {H H' : Hp} {a : Addr} {xs : List V} (e : Same H H') (h : SqL K H a xs) : SqL K H' a xs := by
  rcases h with (h | ⟨o, h⟩) | h
  · exact .inl (.inl (e _ _ h))
  · exact .inl (.inr ⟨o, e _ _ h⟩)
  · exact .inr h
end L2
namespace NH
section
variable {α : Type} [DecidableEq α]
noncomputable def stp (r : List (α × Int)) (p : α × Int) : List (α × Int) :=
  match r with
  | [] => if p.2 = 0 then [] else [p]
  | q :: r' => if q.1 = p.1 then (if q.2 + p.2 = 0 then r' else (p.1, q.2 + p.2) :: r') else (if p.2 = 0 then q :: r' else p :: q :: r')
noncomputable def stk (c : List (α × Int)) : List (α × Int) := c.foldl stp []
noncomputable def short (c : List (α × Int)) : List (α × Int) := (stk c).reverse
noncomputable def Red : List (α × Int) → Prop
  | [] => True
  | [p] => p.2 ≠ 0
  | p :: q :: r => p.2 ≠ 0 ∧ p.1 ≠ q.1 ∧ Red (q :: r)
theorem Red.cons {p : α × Int} {r : List (α × Int)} (h0 : p.2 ≠ 0) (h1 : ∀ q ∈ r.head?, p.1 ≠ q.1) (h : Red r) : Red (p :: r) := by
  cases r with
  | nil => exact h0
  | cons q r => exact ⟨h0, h1 q rfl, h⟩
theorem Red.next {p : α × Int} {r : List (α × Int)} (h : Red (p :: r)) : ∀ q ∈ r.head?, p.1 ≠ q.1 := by
  cases r with
  | nil => intro q hq; cases hq
  | cons q r => intro q' hq; cases hq; exact h.2.1
noncomputable def sn (w : List (α × Int)) (p : α × Int) : List (α × Int) := (stp w.reverse p).reverse
noncomputable def hd2 (p x : α × Int) : List (α × Int) := if x.1 = p.1 then (if x.2 + p.2 = 0 then [] else [(p.1, x.2 + p.2)]) else (if p.2 = 0 then [x] else [p, x])
theorem stp_cons (p x : α × Int) (r : List (α × Int)) : stp (x :: r) p = hd2 p x ++ r := by
  show (if x.1 = p.1 then (if x.2 + p.2 = 0 then r else (p.1, x.2 + p.2) :: r) else (if p.2 = 0 then x :: r else p :: x :: r)) = hd2 p x ++ r
  unfold hd2
  by_cases e : x.1 = p.1
  · rw [if_pos e, if_pos e]; split <;> rfl
  · rw [if_neg e, if_neg e]; split <;> rfl
noncomputable def lt2 (x p : α × Int) : List (α × Int) := (hd2 p x).reverse
theorem sn_snoc (p x : α × Int) (r : List (α × Int)) : sn (r ++ [x]) p = r ++ lt2 x p := by
  unfold sn lt2
  rw [List.reverse_append, List.reverse_singleton, List.singleton_append, stp_cons, List.reverse_append, List.reverse_reverse]
theorem comm1 (p q : α × Int) (x : α × Int) (hx : x.2 ≠ 0) : stp (sn [x] q) p = sn (stp [x] p) q := by
  obtain ⟨n, a⟩ := p
  obtain ⟨k, b⟩ := q
  obtain ⟨m, u⟩ := x
  simp at hx
  by_cases e1 : m = n
  · subst e1
    by_cases e2 : m = k
    · subst e2
      by_cases z1 : u + a = 0 <;> by_cases z2 : u + b = 0
      · simp [stp, sn, z1, z2]
        have : a = b := by omega
        have ha : a ≠ 0 := by omega
        have hb : b ≠ 0 := by omega
        simp [ha, hb, this]
      · have hb : u + b + a = b := by omega
        by_cases b0 : b = 0
        · subst b0; simp [stp, sn, z1, hx]
        · simp [stp, sn, z1, z2, hb, b0]
      · have hb : u + a + b = a := by omega
        by_cases a0 : a = 0
        · subst a0; simp [stp, sn, z2, hx]
        · simp [stp, sn, z1, z2, hb, a0]
      · have hb : u + b + a = u + a + b := by omega
        by_cases z3 : u + a + b = 0
        · simp [stp, sn, z1, z2, hb, z3]
        · simp [stp, sn, z1, z2, hb, z3]
    · by_cases z1 : u + a = 0 <;> by_cases z2 : b = 0 <;> simp [stp, sn, e2, z1, z2]
  · by_cases e2 : m = k
    · subst e2
      by_cases z1 : u + b = 0 <;> by_cases z2 : a = 0 <;> simp [stp, sn, e1, z1, z2]
    · by_cases z1 : a = 0 <;> by_cases z2 : b = 0 <;> simp [stp, sn, e1, e2, z1, z2]
theorem comm0 (p q : α × Int) : stp (sn [] q) p = sn (stp [] p) q := by
  obtain ⟨n, a⟩ := p
  obtain ⟨k, b⟩ := q
  by_cases z1 : a = 0 <;> by_cases z2 : b = 0
  · simp [stp, sn, z1, z2]
  · by_cases e : k = n <;> simp [stp, sn, z1, z2, e]
  · by_cases e : n = k <;> simp [stp, sn, z1, z2, e]
  · by_cases e : k = n
    · subst e
      by_cases z : a + b = 0
      · have z' : b + a = 0 := by omega
        simp [stp, sn, z1, z2, z, z']
      · have z' : ¬ b + a = 0 := by omega
        simp [stp, sn, z1, z2, z, z']
        omega
    · have e' : ¬ n = k := fun t => e t.symm
      simp [stp, sn, z1, z2, e, e']
theorem comm (p q : α × Int) {w : List (α × Int)} (h : Red w) : stp (sn w q) p = sn (stp w p) q := by
  cases w with
  | nil => exact comm0 p q
  | cons x r =>
    rcases List.eq_nil_or_concat r with rfl | ⟨m, y, e⟩
    · exact comm1 p q x h
    · have e' : r = m ++ [y] := by rw [e] <;> simp
      subst e'
      have e1 : x :: (m ++ [y]) = (x :: m) ++ [y] := rfl
      have e2 : sn (x :: (m ++ [y])) q = x :: (m ++ lt2 y q) := by rw [e1, sn_snoc]; rfl
      rw [e2, stp_cons, stp_cons, ← List.append_assoc, ← List.append_assoc, sn_snoc]
end
end NH
namespace L2
open PySem PySem.Spec PyProof.Rows
theorem same_new {H : Hp} {p : Addr} (h : H p = none) (o : HO) : Same H (upd H p o) := fun b u q => by rw [upd_ne (ne_of_none q h)]; exact q
theorem Same.tup {K : PySem.W.Frag} {H H' : Hp} {a : Addr} {xs : List V} (e : Same H H') (h : SqT K H a xs) : SqT K H' a xs := by
  rcases h with (h | ⟨o, h⟩) | h
  · exact .inl (.inl (e _ _ h))
  · exact .inl (.inr ⟨o, e _ _ h⟩)
  · exact .inr h
noncomputable def SameBut (l : Addr) (H H' : Hp) : Prop := ∀ b o, b ≠ l → H b = some o → H' b = some o
theorem SameBut.upd {H : Hp} {l : Addr} (o : HO) : SameBut l H (upd H l o) := fun b u hb q => by rw [upd_ne hb]; exact q
theorem SameBut.trans {H H1 H2 : Hp} {l : Addr} (a : SameBut l H H1) (b : SameBut l H1 H2) : SameBut l H H2 := fun c o hc q => b c o hc (a c o hc q)
theorem SameBut.same {H H' : Hp} {l : Addr} (a : SameBut l H H') (h : H l = none) : Same H H' := fun b o q => a b o (ne_of_none q h) q
theorem SameBut.tup {K : PySem.W.Frag} {H H' : Hp} {l a : Addr} {xs ys : List V} (e : SameBut l H H') (hl : H l = some (.lst ys)) (h : SqT K H a xs) : SqT K H' a xs := by
  rcases h with (h | ⟨o, h⟩) | h
  · exact .inl (.inl (e _ _ (ne_of h hl (by intro z; cases z)) h))
  · exact .inl (.inr ⟨o, e _ _ (ne_of h hl (by intro z; cases z)) h⟩)
  · exact .inr h
mutual
inductive DOf (K : PySem.W.Frag) (H : Hp) : V → PyData → Prop
  | non : DOf K H .non .none
  | bl (b : Bool) : DOf K H (.bl b) (.bool b)
  | int (i : Int) : DOf K H (.int i) (.int i)
  | str (x : Str) : DOf K H (.str x) (.str x)
  | lst {a : Addr} {xs : List V} {ds : List PyData} : SqL K H a xs → DAll K H xs ds → DOf K H (.ref a) (.list ds)
  | tup {a : Addr} {xs : List V} {ds : List PyData} : SqT K H a xs → DAll K H xs ds → DOf K H (.ref a) (.tuple ds)
inductive DAll (K : PySem.W.Frag) (H : Hp) : List V → List PyData → Prop
  | nil : DAll K H [] []
  | cons {x : V} {xs : List V} {d : PyData} {ds : List PyData} : DOf K H x d → DAll K H xs ds → DAll K H (x :: xs) (d :: ds)
end
section
variable {X : Cx} {pins : List (Addr × Obj)} {σ : St} {H : Hp} {s : Shared}
mutual
theorem DOf.reads (I : Inv X pins σ H s) : ∀ {x : V} {d : PyData} {u : Value}, DOf X.K H x d → RelV x u → ∃ as, Reads s.heap u d as
  | _, _, _, .non, r => by cases r; exact ⟨_, Reads.none⟩
  | _, _, _, .bl b, r => by cases r; exact ⟨_, Reads.bool b⟩
  | _, _, _, .int i, r => by obtain ⟨t, rfl⟩ := r; exact ⟨_, Reads.int i t⟩
  | _, _, _, .str x, r => by obtain ⟨t, rfl⟩ := r; exact ⟨_, Reads.str x t⟩
  | _, _, _, .lst hq ha, r => by
    cases r
    obtain ⟨its, rv, ⟨o, n, e, c, _, d⟩, _⟩ := I.list hq
    obtain ⟨as, q⟩ := DAll.reads I ha rv
    exact ⟨_, reads_list_at e c d (by simpa using q)⟩
  | _, _, _, .tup hq ha, r => by
    cases r
    obtain ⟨its, rv, ⟨o, e, c, n, d⟩, _⟩ := I.tuple hq
    obtain ⟨as, q⟩ := DAll.reads I ha rv
    exact ⟨_, reads_tuple_at e c d (by simpa using q)⟩
theorem DAll.reads (I : Inv X pins σ H s) : ∀ {xs : List V} {ds : List PyData} {us : List Value}, DAll X.K H xs ds → Vals xs us → ∃ as, ReadsAll s.heap us ds as
  | _, _, _, .nil, .nil => ⟨_, ReadsAll.nil⟩
  | _, _, _, .cons h t, .cons r rt => by
    obtain ⟨as, q⟩ := DOf.reads I h r
    obtain ⟨bs, p⟩ := DAll.reads I t rt
    exact ⟨_, ReadsAll.cons q p⟩
end
end
noncomputable def rEqD (K : PySem.W.Frag) : R2 := fun x y H Q => ∃ d e, DOf K H x d ∧ DOf K H y e ∧ SeqAt.shaped d = true ∧ SeqAt.shaped e = true ∧ Q (.bl (PyData.eqv d e)) H
noncomputable def rNeD (K : PySem.W.Frag) : R2 := fun x y H Q => ∃ d e, DOf K H x d ∧ DOf K H y e ∧ SeqAt.shaped d = true ∧ SeqAt.shaped e = true ∧ Q (.bl (!PyData.eqv d e)) H
theorem op_eqD {X : Cx} (hu : X.A.units + 64 < cLine) : OpR X (compareOp .Eq) (rEqD X.K) := by
  intro pins s σ H x y v u Q I rx ry h
  obtain ⟨d, e, hd, he, s1, s2, q⟩ := h
  obtain ⟨as, ra⟩ := hd.reads I rx
  obtain ⟨bs, rb⟩ := he.reads I ry
  exact eq_dataH ra rb s1 s2 hu ⟨.bl _, H, I, rfl, q⟩
theorem op_neD {X : Cx} (hu : X.A.units + 64 < cLine) : OpR X (compareOp .NotEq) (rNeD X.K) := by
  intro pins s σ H x y v u Q I rx ry h
  obtain ⟨d, e, hd, he, s1, s2, q⟩ := h
  obtain ⟨as, ra⟩ := hd.reads I rx
  obtain ⟨bs, rb⟩ := he.reads I ry
  exact ne_dataH ra rb s1 s2 hu ⟨.bl _, H, I, rfl, q⟩
end L2
namespace L2
open PySem PySem.Spec PyProof.Rows
section
variable {prog : Program} {w : World} {A : Around} {R : Result → Shared → Prop} {s : Shared}
theorem compLoop_gen {elt target iter : Expr} {ifs : List Expr} {scope : Scope} {pos : Pos} {it acc : Value} {env : Env} (I : Nat → Shared → Prop)
    (turn : ∀ n s, I n s → wpAny (model prog w) A (pyNext it) (fun r s₁ => match r with
      | none => R (.ok .next) s₁
      | some v => wpAny (model prog w) A (letOwnedTupleGo target it v) (fun _ s₁' => wpAny (model prog w) A (assign target env v) (fun _ s₂ =>
          wpAny (model prog w) A (forIn ifs true fun c r => if r = true then do let ok ← isTrue c env (eval c env); pure (ForInStep.yield ok) else pure (ForInStep.yield r)) (fun ok s₃ =>
            if ok = true then wpAny (model prog w) A (eval elt env) (fun x s₄ =>
              wpAny (model prog w) A (call (.builtin "list.append") [acc, x]) (fun _ s₅ => ∃ m, m < n ∧ I m s₅) (fun _ _ => False) s₄) (fun _ _ => False) s₃
            else ∃ m, m < n ∧ I m s₃) (fun _ _ => False) s₂) (fun _ _ => False) s₁') (fun _ _ => False) s₁) (fun _ _ => False) s)
    (n : Nat) (h : I n s) :
    codeAny (model prog w) A (.compLoop (.ListComp elt [⟨target, iter, ifs, 0⟩] scope pos) 0 it acc env) R s := by
  refine codeAny_loop rfl I (fun n s hI => ?_) n h
  show wpAny _ A ((compTurn (.ListComp elt [⟨target, iter, ifs, 0⟩] scope pos) 0 it acc env).onRaise (fun x => do noteFrame x env; theTreesLotGoes x)) _ _ s
  refine wpAny_noted ?_
  rw [compTurn_list]
  refine wpAny_bind (wpAny_standAt (wpAny_bind (wpAny_mono (turn n s hI) (fun r s₁ h₁ => ?_) fun _ _ h' => h'.elim)))
  cases r with
  | none => exact wpAny_pure h₁
  | some v =>
    refine wpAny_bind (wpAny_mono h₁ (fun _ s₁' h₁' => ?_) fun _ _ h' => h'.elim)
    refine wpAny_bind (wpAny_mono h₁' (fun _ s₂ h₂ => wpAny_bind (wpAny_mono h₂ (fun ok s₃ h₃ => ?_) fun _ _ h' => h'.elim)) fun _ _ h' => h'.elim)
    cases ok with
    | false => exact wpAny_pure ⟨rfl, h₃⟩
    | true =>
      exact wpAny_bind (wpAny_bind (wpAny_mono h₃ (fun x s₄ h₄ => wpAny_bind (wpAny_mono h₄ (fun _ s₅ h₅ => wpAny_pure (wpAny_pure ⟨rfl, h₅⟩)) fun _ _ h' => h'.elim)) fun _ _ h' => h'.elim))
end
noncomputable def Cx.comp (X : Cx) (sc : Scope) (cl : List (Str × Addr)) (N : List Str) (C : Addr) (s₀ : Shared) (H₀ : Hp) (fp : List Addr) : Cx :=
  ⟨X.prog, X.w, X.K, X.mg, X.base, X.A, N, s₀, H₀, ⟨sc, C, X.env.globals, cl, X.env.qual, none, X.env.code, X.env.frame, X.env.builtins⟩, X.stack, X.stack, fp, fun _ => false, X.calm, [], fun _ _ => False⟩
noncomputable def PTs (X : Cx) (ifs : List Expr) (t : TT) : Prop :=
  ∀ (pins : List (Addr × Obj)) (s : Shared) (σ : St) (H : Hp) (Q : Bool → Hp → Prop), Inv X pins σ H s → t σ H Q →
    wpAny (model X.prog X.w) X.A (forIn ifs true fun c r => if r = true then do let ok ← isTrue c X.env (eval c X.env); pure (ForInStep.yield ok) else pure (ForInStep.yield r)) (TP X pins σ Q) X.xe s
noncomputable def tYes : TT := fun _ H Q => Q true H
theorem pts_nil {X : Cx} : PTs X [] tYes := fun _ _ _ H _ I h => wpAny_tests_nil ⟨H, I, h⟩
theorem pts_one {X : Cx} {c : Expr} {t : TT} (h : PT X c t) : PTs X [c] t := fun pins s σ H Q I q => wpAny_tests_one (h pins s σ H Q I q)
noncomputable def slots (js : List (Option Nat)) (σ : St) : St := js.map fun j => j.bind fun j => (σ[j]?).join
noncomputable def tComp (js : List (Option Nat)) (wi : TI) (g : TG) (tt : TT) (te : TE) : TE := fun σ H Q => wi σ H fun J H1 => ∀ l, H1 l = none → ∃ W : Nat → Nat → St → Hp → Prop, (∃ m, W 0 m (slots js σ) (upd H1 l (.lst []))) ∧
  ∀ i m σ' H', W i m σ' H' → (J.stop i H' ∧ Q (.ref l) H') ∨ (J.go i H' ∧ ∃ N : St → Hp → Prop, (∀ σ' H', N σ' H' → ∃ m', m' < m ∧ W (i + 1) m' σ' H') ∧ ∀ x H2, J.yld i H' x H2 → g x σ' H2 fun σ3 H3 => tt σ3 H3 fun b H4 =>
    if b = true then te σ3 H4 fun y H5 => ∃ ys, H5 l = some (.lst ys) ∧ ys.length < sizeLine ∧ N σ3 (upd H5 l (.lst (ys ++ [y]))) else N σ3 H4)
section
variable {X : Cx} {elt target iter : Expr} {ifs : List Expr} {scope sc : Scope} {cl : List (Str × Addr)} {N : List Str} {pos : Pos} {wi : TI} {g : TG} {tt : TT} {te : TE} {js : List (Option Nat)}
structure CompOk (X : Cx) (scope sc : Scope) (cl : List (Str × Addr)) (N : List Str) (js : List (Option Nat)) : Prop where
  clos : closureFor scope X.env = pure cl
  rel : relabel scope X.env = sc
  nocell : ∀ y ∈ scope.names, y.2 ≠ .cell
  kind : scope.kind = .function
  names : ∀ y ∈ scope.names, y.2 = .local → scope.names.lookup y.1 = some .local
  same : ∀ x c, cl.lookup x = some c → X.env.cells.lookup x = some c
  has : ∀ x, (sc.names.lookup x = some .cell ∨ sc.names.lookup x = some .free) → ∃ c, cl.lookup x = some c
  len : js.length = N.length
  from_ : ∀ (i j : Nat), js[i]? = some (some j) → ∃ x, N[i]? = some x ∧ X.N[j]? = some x ∧ (sc.names.lookup x = some .cell ∨ sc.names.lookup x = some .free) ∧ (X.env.kindOf x = some .cell ∨ X.env.kindOf x = some .free)
theorem comp_gen {use : Option (Value → Sem Unit)} {Qv : Value → Shared → Prop} (K : CompOk X scope sc cl N js) (hc : X.calm = true) (hi : PI X target iter wi)
    (hgg : ∀ C s₀ H₀ fp, PG (X.comp sc cl N C s₀ H₀ fp) target g) (htt : ∀ C s₀ H₀ fp, PTs (X.comp sc cl N C s₀ H₀ fp) ifs tt) (hee : ∀ C s₀ H₀ fp, PE (X.comp sc cl N C s₀ H₀ fp) elt te)
    (hs : ∀ x, foldedSetIterable iter X.env x = pure x) (pins : List (Addr × Obj)) (s : Shared) (σ : St) (H : Hp) (Q : VK) (I : Inv X pins σ H s) (h : tComp js wi g tt te σ H Q)
    (hend : ∀ (D C : Addr) (H4 : Hp) (s5 : Shared) (m : Str → Option Value), Inv X pins σ H4 s5 → s5.heap.Ns C m → H4 C = none → C ≠ X.env.locals → C ∉ X.fs → X.s₀.heap.objs.size ≤ C → (∀ x c, X.env.cells.lookup x = some c → c ≠ C) → (∀ p ∈ X.pn ++ pins, p.1 ≠ C) → Q (.ref D) H4 →
      compPost (model X.prog X.w) X.A X.xe use Qv (.ref D) C (.ok .next) s5) :
    wpAny (model X.prog X.w) X.A (comprehension (.ListComp elt [⟨target, iter, ifs, 0⟩] scope pos) scope X.env (firstIterPos [⟨target, iter, ifs, 0⟩] pos) (newList []) false (firstIter [⟨target, iter, ifs, 0⟩] X.env) use) Qv X.xe s := by
  refine wpAny_comprehension_free (use := use) rfl hs K.clos K.kind K.names (thn (hi pins s σ H _ I h) fun v s1 h1 => thn h1 fun itv s2 h2 => ?_)
  obtain ⟨it, fp, tn, J, H2, e, I2, T, st2, f2, R⟩ := h2
  subst e
  refine wpAny_newObj_type (wpAny_newFunctionEnv K.nocell (by intro y hy; simp at hy) (fun h₁ hns₁ hsb₁ => ?_) K.kind)
  dsimp only at hns₁ hsb₁ ⊢
  have I3 : Inv X pins σ (upd H2 s2.heap.objs.size (.lst [])) { s2 with heap := s2.heap.push { cls := .type "list", dict := none, data := .seq ([] : List Value).toArray } } :=
    I2.lnew (t' := s2.toks) (its := []) .nil (Nat.zero_le _)
  obtain ⟨W, ⟨m0, w0⟩, turn⟩ := R s2.heap.objs.size (I2.hok.fresh (Nat.le_refl _))
  generalize hP : s2.heap.push { cls := .type "list", dict := none, data := .seq ([] : List Value).toArray } = h3 at hns₁ hsb₁ I3 ⊢
  generalize hD : s2.heap.objs.size = D at w0 turn I3 ⊢
  have hsz3 : h3.objs.size = D + 1 := by rw [← hP, Heap.size_push, hD]
  have old3 : ∀ b o, s2.heap.get? b = some o → h3.get? b = some o := fun b o e => by rw [← hP]; exact Heap.get?_push_of_some _ e
  have old : ∀ b o, h3.get? b = some o → h₁.get? b = some o := fun b o e => hsb₁.extBut b o (Nat.ne_of_lt (Heap.lt_size e)) (Heap.get?_push_of_some _ e)
  have fpD : ∀ b ∈ fp, b < D := fun b hb => by
    obtain ⟨o, e, _⟩ := T.obj _ _ st2 b hb
    rw [← hD]; exact Heap.lt_size e
  have frD : ∀ b ∈ fp, (upd H2 D (.lst [])) b = none := fun b hb => by rw [upd_ne (Nat.ne_of_lt (fpD b hb))]; exact (f2 b hb).1
  have f3 : ∀ b ∈ fp, FpOk X pins (upd H2 D (.lst [])) b := fun b hb => ⟨frD b hb, (f2 b hb).2⟩
  have Hfresh : ∀ a, h3.objs.size ≤ a → (upd H2 D (.lst [])) a = none := fun a ha => I3.hok.fresh ha
  have cellC : ∀ x c, X.env.cells.lookup x = some c → c < h3.objs.size := fun x c e => by
    obtain ⟨v, q⟩ := I3.cell x c e
    exact q.lt
  have YOk : (X.comp sc cl N h3.objs.size { s2 with heap := h3 } (upd H2 D (.lst [])) fp).Ok := by
    refine ⟨I3.ok.mod, ?_, I3.ok.glob, I3.ok.blt, Nat.le_refl _, fun x y c e1 e2 => I3.ok.inj x y c (K.same x c e1) (K.same y c e2), fun x hx => K.has x hx, fun x c hf _ => absurd hf (by intro z; cases z), I3.ok.hd, I3.ok.frames, .inl rfl, fun b hb => ⟨?_, fun x c e => (f2 b hb).2.2.2.2.1 x c (K.same x c e)⟩,
      I3.bs, Nat.le_trans I3.ok.bsz I3.sz, fun b o e hb => ?_, fun b hb hm => ?_, I3.stack, I3.stkFree, I3.tab⟩
    · rw [← K.rel]; exact K.kind
    · exact Nat.ne_of_lt (by rw [hsz3]; exact Nat.lt_succ_of_lt (fpD b hb))
    · rcases (f2 b hb).2.2.2.1 with z | z
      · exact I3.ok.noex b o e z
      · exact absurd (Nat.lt_of_lt_of_le (Heap.lt_size (I3.ok.bs b o e).1) z) (Nat.lt_irrefl _)
    · rcases List.mem_cons.mp (I3.stkSub b hm) with z | z
      · exact (f2 b hb).2.1 z
      · exact (f2 b hb).2.2.1 z
  have IY : Inv (X.comp sc cl N h3.objs.size { s2 with heap := h3 } (upd H2 D (.lst [])) fp) [] (slots js σ) (upd H2 D (.lst [])) { s2 with heap := h₁, toks := s2.toks + ([] : List (Str × Value)).length } := by
    refine ⟨YOk, rfl, I3.bare, Un.kept old, ⟨_, hns₁, fun i x v e1 e2 e3 => ?_⟩, fun x c e => ?_, Hfresh _ (Nat.le_refl _), fun x c e => I3.freeC x c (K.same x c e), fun p hp => absurd (show p ∈ ([] : List (Addr × Obj)) from hp) (by simp), I3.hok.kept old, ?_⟩
    · unfold slots at e2
      rw [List.getElem?_map] at e2
      cases ej : js[i]? with
      | none => rw [ej] at e2; cases e2
      | some jo =>
        rw [ej] at e2
        cases jo with
        | none => cases e2
        | some j =>
          obtain ⟨y, n1, n2, k1, k2⟩ := K.from_ i j ej
          have exy : y = x := Option.some.inj (n1.symm.trans e1)
          subst exy
          have e2' : (σ[j]?).join = some v := Option.some.inj e2
          have e4 : σ[j]? = some (some v) := by
            cases es : σ[j]? with
            | none => rw [es] at e2'; cases e2'
            | some w => rw [es] at e2'; exact congrArg some e2'
          obtain ⟨m, _, hl⟩ := I3.loc
          obtain ⟨u, ru, lk⟩ := hl j y v n2 e4 (by
            rcases k2 with z | z
            · exact .inr (.inl z)
            · exact .inr (.inr z))
          refine ⟨u, ru, .inr ⟨k1, ?_⟩⟩
          obtain ⟨c, hcl⟩ := K.has y k1
          refine ⟨c, hcl, ?_⟩
          rcases lk with ⟨z, _⟩ | ⟨_, c', e5, ic⟩
          · rcases k2 with q | q
            · rw [q] at z; cases z
            · rw [q] at z; cases z
          · have : c' = c := Option.some.inj (e5.symm.trans (K.same y c hcl))
            subst this
            obtain ⟨o, ho, hd⟩ := ic
            exact ⟨o, old _ _ ho, hd⟩
    · obtain ⟨v, o, ho, hd⟩ := I3.cell x c (K.same x c e)
      exact ⟨v, o, old _ _ ho, hd⟩
    · unfold slots; rw [List.length_map]; exact K.len
  have loop : ∀ s₃ : Shared, s₃ = { s2 with heap := h₁, toks := s2.toks + ([] : List (Str × Value)).length } →
      codeAny (model X.prog X.w) X.A (.compLoop (.ListComp elt [⟨target, iter, ifs, 0⟩] scope pos) 0 (.ref it) (.ref D) (X.comp sc cl N h3.objs.size { s2 with heap := h3 } (upd H2 D (.lst [])) fp).env)
        (compPost (model X.prog X.w) X.A X.xe use Qv (.ref D) h3.objs.size) s₃ := by
    rintro s₃ rfl
    refine compLoop_gen (fun n s' => ∃ i σ' H', Inv (X.comp sc cl N h3.objs.size { s2 with heap := h3 } (upd H2 D (.lst [])) fp) [] σ' H' s' ∧ tn i s'.heap ∧ (∀ b ∈ fp, H' b = none) ∧ W i n σ' H') ?_ m0
      ⟨0, _, _, IY, T.keep _ _ _ st2 (fun b hb o e => old b o (old3 b o e)), frD, w0⟩
    rintro n s4 ⟨i, σ4, H4, I4, st4, fr4, w4⟩
    have ff : ∀ {H' : Hp}, (∀ b ∈ fp, H' b = none) → ∀ b ∈ fp, FpOk (X.comp sc cl N h3.objs.size { s2 with heap := h3 } (upd H2 D (.lst [])) fp) [] H' b := fun hn b hb =>
      ⟨hn b hb, (YOk.exf b hb).1, YOk.exfs b hb, .inl hb, (YOk.exf b hb).2, fun p hp => absurd (show p ∈ ([] : List (Addr × Obj)) from hp) (by simp)⟩
    have hg := hgg h3.objs.size { s2 with heap := h3 } (upd H2 D (.lst [])) fp
    have ht := htt h3.objs.size { s2 with heap := h3 } (upd H2 D (.lst [])) fp
    have he := hee h3.objs.size { s2 with heap := h3 } (upd H2 D (.lst [])) fp
    rcases turn i n σ4 H4 w4 with ⟨stop, qn⟩ | ⟨go, Nx, hN, step⟩
    · refine thn (T.done (X.comp sc cl N h3.objs.size { s2 with heap := h3 } (upd H2 D (.lst [])) fp) rfl rfl rfl hc i [] s4 σ4 H4 _ I4 (ff fr4) st4 stop) fun r s5 ⟨hr, I5⟩ => ?_
      subst hr
      obtain ⟨m, hn, _⟩ := I5.loc
      have IX : Inv X pins σ H4 s5 := I3.call' (ch := fp) I5.os I5.base I5.hok I5.bare fun b hb => ⟨(f3 b hb).2.2.2.1, (f3 b hb).2.1, (f3 b hb).2.2.2.2.1, (f3 b hb).2.2.2.2.2⟩
      exact hend D h3.objs.size H4 s5 m IX hn I5.free (Ne.symm (Nat.ne_of_lt I3.lt)) (I3.nofs (Nat.le_refl _)) I3.sz (fun x c e => Nat.ne_of_lt (cellC x c e)) (fun p hp => Nat.ne_of_lt (Heap.lt_size (I3.pin p hp).1)) qn
    · refine thn (T.item (X.comp sc cl N h3.objs.size { s2 with heap := h3 } (upd H2 D (.lst [])) fp) rfl rfl rfl hc i [] s4 σ4 H4 _ I4 (ff fr4) st4 go) fun r s5 ⟨u, hr, h5⟩ => ?_
      subst hr
      refine thn h5 fun _ s6 ⟨x, H6, I6, r6, y6, st6, fr6⟩ => ?_
      have I6' := I6.pinned (ff fr6) (T.obj _ _ st6)
      have back : ∀ {σ7 : St} {H7 : Hp} {s7 : Shared}, Inv (X.comp sc cl N h3.objs.size { s2 with heap := h3 } (upd H2 D (.lst [])) fp) ([] ++ pinsAt fp s6.heap) σ7 H7 s7 →
          Inv (X.comp sc cl N h3.objs.size { s2 with heap := h3 } (upd H2 D (.lst [])) fp) [] σ7 H7 s7 ∧ tn (i + 1) s7.heap ∧ ∀ b ∈ fp, H7 b = none := fun {σ7 H7 s7} I7 =>
        ⟨I7.unpinned, T.keep _ _ _ st6 fun b hb o e => (I7.pin (b, o) (List.mem_append_right _ (List.mem_append_right _ (mem_pinsAt hb e)))).1, fun b hb => by
          obtain ⟨o, e, d⟩ := T.obj _ _ st6 b hb
          exact (I7.pin (b, o) (List.mem_append_right _ (List.mem_append_right _ (mem_pinsAt hb e)))).2.1⟩
      refine thn (hg _ s6 σ4 H6 x u _ I6' r6 (step x H6 y6)) fun _ s7 ⟨σ7, H7, I7, q7⟩ => ?_
      refine thn (ht _ s7 σ7 H7 _ I7 q7) fun b s8 ⟨H8, I8, q8⟩ => ?_
      cases b with
      | false =>
        obtain ⟨m', hm, w8⟩ := hN σ7 H8 q8
        obtain ⟨J1, J2, J3⟩ := back I8
        exact ⟨m', hm, i + 1, σ7, H8, J1, J2, J3, w8⟩
      | true =>
        refine thn (he _ s8 σ7 H8 _ I8 q8) fun yv s9 ⟨y, H9, I9, r9, ys, hl, hz, n9⟩ => ?_
        obtain ⟨m', hm, w9⟩ := hN _ _ n9
        refine thn (mt_append _ s9 σ7 H9 (.ref D) [y] (.ref D) [yv] (fun v H' => v = .non ∧ H' = upd H9 D (.lst (ys ++ [y]))) I9 rfl (.cons r9 .nil) ⟨D, ys, y, rfl, rfl, hl, hz, rfl, rfl⟩) fun _ sA ⟨_, HA, IA, _, _, eA⟩ => ?_
        subst eA
        obtain ⟨J1, J2, J3⟩ := back IA
        exact ⟨m', hm, i + 1, σ7, _, J1, J2, J3, w9⟩
  rw [K.rel]
  exact codeAny_compStart_list (loop _ rfl) (T.self _ 0 _ _ _ (T.keep _ _ _ st2 (fun b hb o e => old b o (old3 b o e))) (loop _ rfl))
theorem pe_comp (K : CompOk X scope sc cl N js) (hc : X.calm = true) (hi : PI X target iter wi)
    (hgg : ∀ C s₀ H₀ fp, PG (X.comp sc cl N C s₀ H₀ fp) target g) (htt : ∀ C s₀ H₀ fp, PTs (X.comp sc cl N C s₀ H₀ fp) ifs tt) (hee : ∀ C s₀ H₀ fp, PE (X.comp sc cl N C s₀ H₀ fp) elt te)
    (hs : ∀ x, foldedSetIterable iter X.env x = pure x := by intro _; rfl) : PE X (.ListComp elt [⟨target, iter, ifs, 0⟩] scope pos) (tComp js wi g tt te) := by
  intro pins s σ H Q I h
  rw [eval_ListComp]
  refine comp_gen (use := none) K hc hi hgg htt hee hs pins s σ H Q I h fun D C H4 s5 m IX hn fC nL _ sz nc np qn => ?_
  exact ⟨m, hn, fun h' hs' => ⟨.ref D, H4, IX.turned (t' := s5.toks) (it := C) (fun b o hb e => (hs'.2 b hb).trans e) fC nL (.inr sz) nc np, rfl, qn⟩⟩
theorem ps_comp {x : Str} {px spos : Pos} {gx : TG} (K : CompOk X scope sc cl N js) (hc : X.calm = true) (hx : PG X (.Name x px) gx) (hi : PI X target iter wi)
    (hgg : ∀ C s₀ H₀ fp, PG (X.comp sc cl N C s₀ H₀ fp) target g) (htt : ∀ C s₀ H₀ fp, PTs (X.comp sc cl N C s₀ H₀ fp) ifs tt) (hee : ∀ C s₀ H₀ fp, PE (X.comp sc cl N C s₀ H₀ fp) elt te)
    (hs : ∀ x, foldedSetIterable iter X.env x = pure x := by intro _; rfl) (hsw : swapsWith (.ListComp elt [⟨target, iter, ifs, 0⟩] scope pos) (some (.Name x px)) spos.line X.env = pure true := by rfl) :
    PS X (.Assign [.Name x px] (.ListComp elt [⟨target, iter, ifs, 0⟩] scope pos) spos) (tAsg (tComp js wi g tt te) gx) := by
  intro pins s σ H D I h
  rw [exec_Assign_Name_used _ _ _ _ hsw]
  refine wpAny_bind (wpAny_standAt (wpAny_bind ?_))
  show wpAny _ _ (comprehension (.ListComp elt [⟨target, iter, ifs, 0⟩] scope pos) scope X.env (firstIterPos [⟨target, iter, ifs, 0⟩] pos) (newList []) false (firstIter [⟨target, iter, ifs, 0⟩] X.env) (some (assign (.Name x px) X.env)) >>= fun _ => pure ()) _ _ _
  refine wpAny_bind (wpAny_mono (comp_gen (use := some (assign (.Name x px) X.env)) (Qv := fun _ s' => ∃ σ' H', Inv X pins σ' H' s' ∧ D.nx σ' H') K hc hi hgg htt hee hs pins s σ H _ I h fun Dd C H4 s5 m IX hn fC nL nF sz nc np qn => ?_) (fun _ s' ⟨σ', H', I', q'⟩ => wpAny_pure (wpAny_pure ⟨σ', H', I', q'⟩)) fun _ _ e => e)
  obtain ⟨o, es, ep, ho, hd, r⟩ := hn
  have IP : Inv X ((C, o) :: pins) σ H4 s5 := IX.pins_of fun p hp => (List.mem_cons.mp hp).elim (fun z => by subst z; exact ⟨ho, fC, nL, nF, fun v z => by rw [hd] at z; cases z⟩) fun z => IX.pin p (List.mem_append_right _ z)
  refine wpAny_mono (hx ((C, o) :: pins) s5 σ H4 (.ref Dd) (.ref Dd) D.nx IP rfl qn) (fun _ s6 ⟨σ6, H6, I6, q6⟩ => ?_) fun _ _ e => e
  obtain ⟨p1, p2, _⟩ := I6.pin (C, o) (List.mem_append_right _ (List.mem_cons_self ..))
  have I7 : Inv X pins σ6 H6 s6 := I6.pins_of fun p hp => I6.pin p (List.mem_append_right _ (List.mem_cons_of_mem _ hp))
  exact ⟨m, ⟨o, es, ep, p1, hd, r⟩, fun h' hs' => ⟨σ6, H6, I7.turned (t' := s6.toks) (it := C) (fun b o hb e => (hs'.2 b hb).trans e) p2 nL (.inr sz) nc np, q6⟩⟩
end
end L2
namespace L2
open PySem PySem.Spec PyProof.Rows
theorem compClosed {X : Cx} {scope : Scope} {N : List Str} {js : List (Option Nat)} (hf : ∀ x ∈ scope.names, x.2 ≠ .free := by decide +kernel) (hcell : ∀ x ∈ scope.names, x.2 ≠ .cell := by decide +kernel)
    (hk : scope.kind = .function := by rfl) (hn : ∀ y ∈ scope.names, y.2 = .local → scope.names.lookup y.1 = some .local := by decide +kernel) (hl : js.length = N.length := by rfl) (hj : ∀ j ∈ js, j = none := by decide) : CompOk X scope scope [] N js where
  clos := closureFor_none hf
  rel := by
    unfold relabel
    have e : (scope.names.map fun (x : Str × NameKind) => match x with | (n, k) => if (k == .free && X.env.scope.kind == .function && X.env.kindOf n == some .cell) then (n, NameKind.cell) else (n, k)) = scope.names := by
      refine map_eq_self fun x hx => ?_
      obtain ⟨n, k⟩ := x
      have : (k == NameKind.free) = false := by simpa using hf _ hx
      simp [this]
    rw [e]
  nocell := hcell
  kind := hk
  names := hn
  same := fun x c e => by simp at e
  has := fun x h => by
    rcases h with h | h
    · exact absurd rfl (hcell _ (PySem.mem_of_lookup h))
    · exact absurd rfl (hf _ (PySem.mem_of_lookup h))
  len := hl
  from_ := fun i j h => by
    have := hj _ (List.mem_of_getElem? h)
    cases this
structure Own (P : Program) (w : World) (K : PySem.W.Frag) (mg : Str → Option Value) (base : Heap) (k : Nat) (x : Str) (ps : List Str) (sp : Sp) : Prop where
  ex : ∃ (f : Addr) (fd : FuncData), FnOk P w K mg base CX0 k f fd ps sp ∧ Binds K fd ps [] ∧ mg x = some (.ref f) ∧ PySem.W.keepIn K (.ref f) = true
theorem pe_own {X : Cx} {k : Nat} {x : Str} {ps : List Str} {sp : Sp} {p pos : Pos} {e : Expr} {es : List Expr} {t : TA} (D : Own X.prog X.w X.K X.mg X.base k x ps sp) (hr : Room k X.A) (hg : Gl X x) (ha : PA X (e :: es) t)
    (hdb : (x == ("__debug__" : Str)) = false := by decide) (he : starEach (e :: es) X.env = (false, eval e X.env) :: starEach es X.env := by rfl) (hpl : (backTo pos (starEach es X.env)).any (·.1) = false := by rfl) :
    PE X (.Call (.Name x p) (e :: es) [] pos) (tCall sp [] E0 t) := by
  obtain ⟨f, fd, F, b, m, kp⟩ := D.ex
  exact pe_call F hr hg m kp b .nil pass0 ha hdb he hpl
structure Def (K : PySem.W.Frag) (mg : Str → Option Value) (x : Str) (st : Stmt) (ps : List Str) : Prop where
  ex : ∃ (f : Addr) (fd : FuncData), Fun K x x st f fd ∧ mg x = some (.ref f) ∧ Binds K fd ps []
theorem Def.own {P : Program} {w : World} {K : PySem.W.Frag} {mg : Str → Option Value} {base : Heap} {x : Str} {st : Stmt} {N ps : List Str} {k : Nat} {sp : Sp} (D : Def K mg x st ps) (S : FnScope N ps (defScope st))
    (len : ∀ vs H Q E, sp vs H Q E → vs.length = ps.length)
    (hbody : ∀ (f : Addr) (cdv : Value) (A : Around) (outer : List Env) (s : Shared) (H : Hp) (vs : List V) (Q : VK) (E : XK), Room k (A.deeper (envOfC x (defScope st) s.heap.objs.size f cdv)) → sp vs H Q E →
      ∃ t, PSs (cxOf CX0 P w K mg base N x (defScope st) f cdv A outer s H E).nox (defBody st) t ∧ t { nx := fun _ H' => Q .non H', rt := Q } (start N vs) H) : Own P w K mg base (k + 1) x ps sp := by
  obtain ⟨f, fd, F, m, b⟩ := D.ex
  exact ⟨f, fd, F.ok S len (hbody f), b, m, F.kp⟩
theorem def_mk {K : PySem.W.Frag} {h : Heap} {mg : Str → Option Value} {x : Str} {st : Stmt} {ps : List Str} {f : Addr} {oc : Value} {od an : Option Addr} {osl : Array (Option Value)} {kV doc pm cdv ct : Value} (X : K.In h) (G : h.Ns mainGlobals mg)
    (a : PySem.W.nsIn K mainGlobals x = some (some (.ref f))) (l : K.lookup f = some ⟨oc, od, .func (PySem.W.fnOf x x (defArgs st) (defBody st) (defScope st) .none kV doc pm an cdv ct), osl⟩)
    (c : PySem.W.codeIn K cdv x = true) (k : PySem.W.keepIn K (.ref f) = true)
    (b : ∀ (kV doc pm : Value) (an : Option Addr) (cdv ct : Value) (us : List Value), us.length = ps.length → bindArgs (PySem.W.fnOf x x (defArgs st) (defBody st) (defScope st) .none kV doc pm an cdv ct) ⟨us, []⟩ = pure (ps.zip us)) : Def K mg x st ps :=
  ⟨f, _, fun_mk l c k, PySem.W.mg_of X G a, (fun_mk (st := st) l c k).binds b⟩
end L2
namespace Nh
open PySem L2
section
variable {α β : Type} {F : α → β → Prop}
theorem pr_append : ∀ {a : List α} {b : List β} {c : List α} {d : List β}, Paired F a b → Paired F c d → Paired F (a ++ c) (b ++ d)
  | _, _, _, _, .nil, s => s
  | _, _, _, _, .cons r t, s => .cons r (pr_append t s)
theorem pr_take : ∀ {a : List α} {b : List β} (n : Nat), Paired F a b → Paired F (a.take n) (b.take n)
  | _, _, 0, _ => .nil
  | _, _, _ + 1, .nil => .nil
  | _, _, n + 1, .cons r t => .cons r (pr_take n t)
theorem pr_drop : ∀ {a : List α} {b : List β} (n : Nat), Paired F a b → Paired F (a.drop n) (b.drop n)
  | _, _, 0, r => r
  | _, _, _ + 1, .nil => .nil
  | _, _, n + 1, .cons _ t => pr_drop n t
theorem pr_reverse : ∀ {a : List α} {b : List β}, Paired F a b → Paired F a.reverse b.reverse
  | _, _, .nil => .nil
  | _, _, .cons r t => by
    rw [List.reverse_cons, List.reverse_cons]
    exact pr_append (pr_reverse t) (.cons r .nil)
theorem pr_get' : ∀ {a : List α} {b : List β} {i : Nat} {y : β}, Paired F a b → b[i]? = some y → ∃ x, a[i]? = some x ∧ F x y
  | _, _, _, _, .nil, e => by simp at e
  | _, _, 0, _, .cons r _, e => by simp at e; subst e; exact ⟨_, rfl, r⟩
  | _, _, i + 1, x, .cons _ t, e => by
    obtain ⟨u, h1, h2⟩ := pr_get' (i := i) (y := x) t (by simpa using e)
    exact ⟨u, by simpa using h1, h2⟩
theorem pr_rep {a : List α} {b : List β} (h : Paired F a b) : ∀ k : Nat, Paired F (List.replicate k a).flatten (List.replicate k b).flatten
  | 0 => .nil
  | k + 1 => by
    rw [List.replicate_succ, List.replicate_succ, List.flatten_cons, List.flatten_cons]
    exact pr_append h (pr_rep h k)
end
noncomputable abbrev Pc := Nat × Int
noncomputable def tv (p : Pc) : List V := [.str ⟨#[p.1]⟩, .int p.2]
noncomputable def PcAt (H : Hp) (v : V) (p : Pc) : Prop := ∃ t, v = .ref t ∧ H t = some (.tup (tv p))
noncomputable abbrev PAll (H : Hp) : List V → List Pc → Prop := Paired (PcAt H)
section
variable {H H' : Hp} {l : Addr} {xs ys : List V} {c : List Pc}
theorem PAll.same (s : Same H H') (h : PAll H xs c) : PAll H' xs c := Paired.mapP h fun _ _ ⟨t, e, q⟩ => ⟨t, e, s _ _ q⟩
theorem PAll.len (h : PAll H xs c) : xs.length = c.length := Paired.length h
end
noncomputable def Cord (H : Hp) (a : Addr) (c : List Pc) : Prop := ∃ xs, H a = some (.lst xs) ∧ PAll H xs c
section
variable {H H' : Hp} {a : Addr} {c d : List Pc}
theorem Cord.same (s : Same H H') (h : Cord H a c) : Cord H' a c := let ⟨xs, e, p⟩ := h; ⟨xs, s _ _ e, p.same s⟩
end
noncomputable def pcD (p : Pc) : PyData := .tuple [.str ⟨#[p.1]⟩, .int p.2]
noncomputable def cordD (c : List Pc) : PyData := .list (c.map pcD)
noncomputable def NailsOk (c : List Pc) : Prop := ∀ p ∈ c, p.1 < 128
theorem pall_data {K : PySem.W.Frag} {H : Hp} : ∀ {xs : List V} {c : List Pc}, PAll H xs c → DAll K H xs (c.map pcD)
  | _, _, .nil => .nil
  | _, _, .cons ⟨t, e, q⟩ r => by
    subst e
    exact .cons (.tup (SqT.of q) (.cons (.str _) (.cons (.int _) .nil))) (pall_data r)
theorem Cord.data {K : PySem.W.Frag} {H : Hp} {a : Addr} {c : List Pc} (h : Cord H a c) : DOf K H (.ref a) (cordD c) :=
  let ⟨_, e, p⟩ := h; .lst (SqL.of e) (pall_data p)
end Nh
namespace PL
open PySem PySem.Spec PyProof.Rows L2 Nh
noncomputable def keyD : Key → PyData
  | .inl i => .int i
  | .inr x => .str x
mutual
inductive Rp (K : PySem.W.Frag) (H : Hp) : V → PyData → Prop
  | non : Rp K H .non .none
  | bl (b : Bool) : Rp K H (.bl b) (.bool b)
  | int (i : Int) : Rp K H (.int i) (.int i)
  | str (x : Str) : Rp K H (.str x) (.str x)
  | lst {a : Addr} {xs : List V} {ds : List PyData} : SqL K H a xs → RpA K H xs ds → Rp K H (.ref a) (.list ds)
  | tup {a : Addr} {xs : List V} {ds : List PyData} : SqT K H a xs → RpA K H xs ds → Rp K H (.ref a) (.tuple ds)
  | dct {a : Addr} {us : List (Key × V)} {kvs : List (PyData × PyData)} : Rd H a (.dK us) → RpK K H us kvs → Rp K H (.ref a) (.dict kvs)
inductive RpA (K : PySem.W.Frag) (H : Hp) : List V → List PyData → Prop
  | nil : RpA K H [] []
  | cons {x : V} {xs : List V} {d : PyData} {ds : List PyData} : Rp K H x d → RpA K H xs ds → RpA K H (x :: xs) (d :: ds)
inductive RpK (K : PySem.W.Frag) (H : Hp) : List (Key × V) → List (PyData × PyData) → Prop
  | nil : RpK K H [] []
  | cons {k : Key} {x : V} {us : List (Key × V)} {d : PyData} {kvs : List (PyData × PyData)} : Rp K H x d → RpK K H us kvs → RpK K H ((k, x) :: us) ((keyD k, d) :: kvs)
end
mutual
noncomputable def flat : PyData → Bool
  | .none => true
  | .bool _ => true
  | .int _ => true
  | .str _ => true
  | .list _ => false
  | .tuple xs => flatA xs
  | .dict _ => false
noncomputable def flatA : List PyData → Bool
  | [] => true
  | d :: ds => flat d && flatA ds
end
noncomputable def coldO : HO → Bool
  | .tup _ => true
  | .frz _ _ => true
  | _ => false
noncomputable def tups (H : Hp) : Hp := fun b => (H b).filter coldO
theorem tups_same (H : Hp) : Same (tups H) H := fun b o h => (Option.filter_eq_some_iff.mp h).1
theorem tups_of {H : Hp} {b : Addr} {o : HO} (h : H b = some o) (c : coldO o = true) : tups H b = some o := Option.filter_eq_some_iff.mpr ⟨h, c⟩
theorem tups_upd {H : Hp} {l : Addr} {xs ys : List V} (h : H l = some (.lst xs)) : tups (upd H l (.lst ys)) = tups H := by
  funext b
  unfold tups
  by_cases e : b = l
  · subst e
    rw [upd_same, h]
    rfl
  · rw [upd_ne e]
section
variable {K : PySem.W.Frag} {H H' : Hp}
theorem sqt_cold {a : Addr} {xs : List V} (h : SqT K H a xs) : SqT K (tups H) a xs := by
  rcases h with (h | ⟨o, h⟩) | h
  · exact .inl (.inl (tups_of h rfl))
  · exact .inl (.inr ⟨o, tups_of h rfl⟩)
  · exact .inr h
theorem rd_same {a : Addr} {u : HO} (s : Same H H') (h : Rd H a u) : Rd H' a u := by
  rcases h with h | ⟨o, h⟩
  · exact .inl (s _ _ h)
  · exact .inr ⟨o, s _ _ h⟩
mutual
theorem Rp.same (s : Same H H') : ∀ {v : V} {d : PyData}, Rp K H v d → Rp K H' v d
  | _, _, .non => .non
  | _, _, .bl b => .bl b
  | _, _, .int i => .int i
  | _, _, .str x => .str x
  | _, _, .lst h r => .lst (s.seq h) (RpA.same s r)
  | _, _, .tup h r => .tup (s.tup h) (RpA.same s r)
  | _, _, .dct h r => .dct (rd_same s h) (RpK.same s r)
theorem RpA.same (s : Same H H') : ∀ {v : List V} {d : List PyData}, RpA K H v d → RpA K H' v d
  | _, _, .nil => .nil
  | _, _, .cons h r => .cons (Rp.same s h) (RpA.same s r)
theorem RpK.same (s : Same H H') : ∀ {v : List (Key × V)} {d : List (PyData × PyData)}, RpK K H v d → RpK K H' v d
  | _, _, .nil => .nil
  | _, _, .cons h r => .cons (Rp.same s h) (RpK.same s r)
end
mutual
theorem Rp.cold : ∀ {v : V} {d : PyData}, Rp K H v d → flat d = true → Rp K (tups H) v d
  | _, _, .non, _ => .non
  | _, _, .bl b, _ => .bl b
  | _, _, .int i, _ => .int i
  | _, _, .str x, _ => .str x
  | _, _, .lst h r, e => by simp [flat] at e
  | _, _, .dct h r, e => by simp [flat] at e
  | _, _, .tup h r, e => .tup (sqt_cold h) (RpA.cold r (by simpa [flat] using e))
theorem RpA.cold : ∀ {v : List V} {d : List PyData}, RpA K H v d → flatA d = true → RpA K (tups H) v d
  | _, _, .nil, _ => .nil
  | _, _, .cons h r, e => by
    simp only [flatA, Bool.and_eq_true] at e
    exact .cons (Rp.cold h e.1) (RpA.cold r e.2)
end
mutual
theorem Rp.dof' : ∀ {v : V} {d : PyData}, Rp K H v d → d.canLay0 = true → DOf K H v d
  | _, _, .non, _ => .non
  | _, _, .bl b, _ => .bl b
  | _, _, .int i, _ => .int i
  | _, _, .str x, _ => .str x
  | _, _, .lst h r, e => .lst h (RpA.dof' r (by simpa [PyData.canLay0] using e))
  | _, _, .tup h r, e => .tup h (RpA.dof' r (by simpa [PyData.canLay0] using e))
  | _, _, .dct h r, e => by simp [PyData.canLay0] at e
theorem RpA.dof' : ∀ {v : List V} {d : List PyData}, RpA K H v d → PyData.canLayAll0 d = true → DAll K H v d
  | _, _, .nil, _ => .nil
  | _, _, .cons h r, e => by
    simp only [PyData.canLayAll0, Bool.and_eq_true] at e
    exact .cons (Rp.dof' h e.1) (RpA.dof' r e.2)
end
theorem Rp.dof {v : V} {d : PyData} (h : Rp K H v d) (e : SeqAt.shaped d = true) : DOf K H v d := h.dof' (SeqAt.canLay_of_shaped e)
theorem RpA.pr : ∀ {vs : List V} {ds : List PyData}, RpA K H vs ds → Paired (Rp K H) vs ds
  | _, _, .nil => .nil
  | _, _, .cons h r => .cons h (RpA.pr r)
theorem RpA.of : ∀ {vs : List V} {ds : List PyData}, Paired (Rp K H) vs ds → RpA K H vs ds
  | _, _, .nil => .nil
  | _, _, .cons h r => .cons h (RpA.of r)
theorem RpA.len {vs : List V} {ds : List PyData} (h : RpA K H vs ds) : vs.length = ds.length := Paired.length h.pr
theorem RpA.append {vs us : List V} {ds es : List PyData} (h : RpA K H vs ds) (k : RpA K H us es) : RpA K H (vs ++ us) (ds ++ es) := .of (pr_append h.pr k.pr)
theorem RpA.take {vs : List V} {ds : List PyData} (n : Nat) (h : RpA K H vs ds) : RpA K H (vs.take n) (ds.take n) := .of (pr_take n h.pr)
theorem RpA.drop {vs : List V} {ds : List PyData} (n : Nat) (h : RpA K H vs ds) : RpA K H (vs.drop n) (ds.drop n) := .of (pr_drop n h.pr)
theorem RpA.rev {vs : List V} {ds : List PyData} (h : RpA K H vs ds) : RpA K H vs.reverse ds.reverse := .of (pr_reverse h.pr)
theorem RpA.rep {vs : List V} {ds : List PyData} (n : Nat) (h : RpA K H vs ds) : RpA K H (List.replicate n vs).flatten (List.replicate n ds).flatten := .of (pr_rep h.pr n)
theorem RpA.get {vs : List V} {ds : List PyData} {i : Nat} {d : PyData} (h : RpA K H vs ds) (e : ds[i]? = some d) : ∃ v, vs[i]? = some v ∧ Rp K H v d := pr_get' h.pr e
theorem RpA.set : ∀ {vs : List V} {ds : List PyData} {v : V} {d : PyData} (i : Nat), RpA K H vs ds → Rp K H v d → RpA K H (vs.set i v) (ds.set i d)
  | _, _, _, _, _, .nil, _ => .nil
  | _, _, _, _, 0, .cons _ r, h => .cons h r
  | _, _, _, _, i + 1, .cons q r, h => .cons q (RpA.set i r h)
theorem RpA.snoc {vs : List V} {ds : List PyData} {v : V} {d : PyData} (h : RpA K H vs ds) (k : Rp K H v d) : RpA K H (vs ++ [v]) (ds ++ [d]) := h.append (.cons k .nil)
end
inductive Pt where
  | fl (d : PyData) | ol (ds : List PyData)
noncomputable def Pt.val : Pt → PyData
  | .fl d => d
  | .ol ds => .list ds
inductive Sl where
  /-- nothing is known -/
  | no
  /-- never written again -/
  | sh (d : PyData)
  /-- a list of one's own -/
  | ow (ds : List PyData)
  /-- a dict of one's own, its values lists of one's own -/
  | od (kvs : List (Key × List PyData))
  /-- a tuple with lists of one's own -/
  | tx (ps : List Pt)
  /-- (a part of an expression) the value of a name -/
  | al (i : Nat)
  /-- (a part of an expression) as it stands just now -/
  | br (d : PyData)
noncomputable def PtsOk (K : PySem.W.Frag) (F H : Hp) : List V → List Pt → List Addr → Prop
  | [], [], A => A = []
  | v :: vs, .fl d :: ps, A => Rp K F v d ∧ PtsOk K F H vs ps A
  | v :: vs, .ol ds :: ps, A => ∃ l us A', v = .ref l ∧ A = l :: A' ∧ H l = some (.lst us) ∧ RpA K F us ds ∧ PtsOk K F H vs ps A'
  | _, _, _ => False
noncomputable def DlOk (K : PySem.W.Frag) (F H : Hp) : List (Key × V) → List (Key × List PyData) → List Addr → Prop
  | [], [], A => A = []
  | p :: us, q :: kvs, A => ∃ l vs A', p = (q.1, .ref l) ∧ A = l :: A' ∧ H l = some (.lst vs) ∧ RpA K F vs q.2 ∧ DlOk K F H us kvs A'
  | _, _, _ => False
noncomputable def SlOk (K : PySem.W.Frag) (F H : Hp) (σ : L2.St) (o : Option V) : Sl → List Addr → Prop
  | .no, A => A = []
  | .sh d, A => A = [] ∧ ∃ v, o = some v ∧ Rp K F v d
  | .ow ds, A => ∃ l vs, o = some (.ref l) ∧ A = [l] ∧ H l = some (.lst vs) ∧ RpA K F vs ds
  | .od kvs, A => ∃ l us A', o = some (.ref l) ∧ A = l :: A' ∧ H l = some (.dK us) ∧ DlOk K F H us kvs A'
  | .tx ps, A => ∃ t vs, o = some (.ref t) ∧ F t = some (.tup vs) ∧ PtsOk K F H vs ps A
  | .al i, A => A = [] ∧ ∃ v, o = some v ∧ σ[i]? = some (some v)
  | .br d, A => A = [] ∧ ∃ v, o = some v ∧ Rp K H v d
noncomputable def Sl.isBr : Sl → Bool
  | .br _ => true
  | _ => false
noncomputable def Sl.isAl : Sl → Bool
  | .al _ => true
  | .br _ => true
  | _ => false
section
variable {K : PySem.W.Frag} {F F' H H' : Hp} {σ σ' : L2.St}
theorem PtsOk.stay (s : Same F F') : ∀ {vs : List V} {ps : List Pt} {A : List Addr}, (∀ b ∈ A, H' b = H b) → PtsOk K F H vs ps A → PtsOk K F' H' vs ps A
  | [], [], A, _, h => h
  | v :: vs, .fl d :: ps, A, e, h => ⟨h.1.same s, PtsOk.stay s e h.2⟩
  | v :: vs, .ol ds :: ps, A, e, h => by
    obtain ⟨l, us, A', rfl, rfl, hl, hr, q⟩ := h
    exact ⟨l, us, A', rfl, rfl, (e l (List.mem_cons_self ..)).trans hl, hr.same s, q.stay s fun b hb => e b (List.mem_cons_of_mem _ hb)⟩
  | [], _ :: _, _, _, h => False.elim h
  | _ :: _, [], _, _, h => False.elim h
theorem DlOk.stay (s : Same F F') : ∀ {us : List (Key × V)} {kvs : List (Key × List PyData)} {A : List Addr}, (∀ b ∈ A, H' b = H b) → DlOk K F H us kvs A → DlOk K F' H' us kvs A
  | [], [], A, _, h => h
  | p :: us, q :: kvs, A, e, h => by
    obtain ⟨l, vs, A', rfl, rfl, hl, hr, k⟩ := h
    exact ⟨l, vs, A', rfl, rfl, (e l (List.mem_cons_self ..)).trans hl, hr.same s, k.stay s fun b hb => e b (List.mem_cons_of_mem _ hb)⟩
  | [], _ :: _, _, _, h => False.elim h
  | _ :: _, [], _, _, h => False.elim h
theorem DlOk.some : ∀ {us : List (Key × V)} {kvs : List (Key × List PyData)} {A : List Addr}, DlOk K F H us kvs A → ∀ a ∈ A, ∃ vs, H a = some (.lst vs)
  | [], [], A, h, a, ha => by rw [show A = [] from h] at ha; cases ha
  | p :: us, q :: kvs, A, h, a, ha => by
    obtain ⟨l, vs, A', rfl, rfl, hl, hr, k⟩ := h
    rcases List.mem_cons.mp ha with e | e
    · subst e; exact ⟨vs, hl⟩
    · exact k.some a e
  | [], _ :: _, _, h, _, _ => False.elim h
  | _ :: _, [], _, h, _, _ => False.elim h
theorem PtsOk.some : ∀ {vs : List V} {ps : List Pt} {A : List Addr}, PtsOk K F H vs ps A → ∀ a ∈ A, ∃ us, H a = some (.lst us)
  | [], [], A, h, a, ha => by rw [show A = [] from h] at ha; cases ha
  | v :: vs, .fl d :: ps, A, h, a, ha => PtsOk.some h.2 a ha
  | v :: vs, .ol ds :: ps, A, h, a, ha => by
    obtain ⟨l, us, A', rfl, rfl, hl, hr, q⟩ := h
    rcases List.mem_cons.mp ha with e | e
    · subst e; exact ⟨us, hl⟩
    · exact q.some a e
  | [], _ :: _, _, h, _, _ => False.elim h
  | _ :: _, [], _, h, _, _ => False.elim h
theorem PtsOk.rp (s : Same F H) : ∀ {vs : List V} {ps : List Pt} {A : List Addr}, PtsOk K F H vs ps A → RpA K H vs (ps.map Pt.val)
  | [], [], A, _ => .nil
  | v :: vs, .fl d :: ps, A, h => .cons (h.1.same s) (PtsOk.rp s h.2)
  | v :: vs, .ol ds :: ps, A, h => by
    obtain ⟨l, us, A', rfl, rfl, hl, hr, q⟩ := h
    exact .cons (.lst (SqL.of hl) (hr.same s)) (q.rp s)
  | [], _ :: _, _, h => False.elim h
  | _ :: _, [], _, h => False.elim h
theorem SlOk.stay {o : Option V} {s : Sl} {A : List Addr} (hF : Same F F') (e : ∀ b ∈ A, H' b = H b) (hb : s.isBr = true → Same H H') (h : SlOk K F H σ o s A) : SlOk K F' H' σ o s A := by
  cases s with
  | no => exact h
  | sh d => obtain ⟨rfl, v, rfl, r⟩ := h; exact ⟨rfl, v, rfl, r.same hF⟩
  | ow ds => obtain ⟨l, vs, rfl, rfl, hl, r⟩ := h; exact ⟨l, vs, rfl, rfl, (e l (by simp)).trans hl, r.same hF⟩
  | od kvs => obtain ⟨l, us, A', rfl, rfl, hl, r⟩ := h; exact ⟨l, us, A', rfl, rfl, (e l (by simp)).trans hl, r.stay hF fun b hb => e b (List.mem_cons_of_mem _ hb)⟩
  | tx ps => obtain ⟨t, vs, rfl, ht, r⟩ := h; exact ⟨t, vs, rfl, hF _ _ ht, r.stay hF e⟩
  | al i => exact h
  | br d => obtain ⟨rfl, v, rfl, r⟩ := h; exact ⟨rfl, v, rfl, r.same (hb rfl)⟩
theorem SlOk.mut {o : Option V} {s : Sl} {A : List Addr} (h : SlOk K F H σ o s A) : ∀ a ∈ A, (∃ us, H a = some (.lst us)) ∨ ∃ us, H a = some (.dK us) := by
  cases s with
  | no => intro a ha; rw [show A = [] from h] at ha; cases ha
  | sh d => obtain ⟨rfl, _⟩ := h; intro a ha; cases ha
  | ow ds => obtain ⟨l, vs, rfl, rfl, hl, r⟩ := h; intro a ha; rw [List.mem_singleton.mp ha]; exact .inl ⟨_, hl⟩
  | od kvs =>
    obtain ⟨l, vs, A', rfl, rfl, hl, r⟩ := h
    intro a ha
    rcases List.mem_cons.mp ha with z | z
    · rw [z]; exact .inr ⟨_, hl⟩
    · exact .inl (r.some a z)
  | tx ps => obtain ⟨t, vs, rfl, ht, r⟩ := h; exact fun a ha => .inl (r.some a ha)
  | al i => obtain ⟨rfl, _⟩ := h; intro a ha; cases ha
  | br d => obtain ⟨rfl, _⟩ := h; intro a ha; cases ha
end
inductive SAll (P : Option V → Sl → List Addr → Prop) : List (Option V) → List Sl → List Addr → Prop
  | nil : SAll P [] [] []
  | cons {o : Option V} {s : Sl} {A : List Addr} {os : List (Option V)} {ss : List Sl} {B : List Addr} : P o s A → SAll P os ss B → SAll P (o :: os) (s :: ss) (A ++ B)
section
variable {P P' : Option V → Sl → List Addr → Prop}
theorem SAll.len : ∀ {os : List (Option V)} {ss : List Sl} {A : List Addr}, SAll P os ss A → os.length = ss.length
  | _, _, _, .nil => rfl
  | _, _, _, .cons _ r => congrArg (· + 1) r.len
theorem SAll.mono : ∀ {os : List (Option V)} {ss : List Sl} {A : List Addr}, SAll P os ss A → (∀ o s B, s ∈ ss → (∀ b ∈ B, b ∈ A) → P o s B → P' o s B) → SAll P' os ss A
  | _, _, _, .nil, _ => .nil
  | _, _, _, .cons h r, f => .cons (f _ _ _ (List.mem_cons_self ..) (fun b hb => List.mem_append_left _ hb) h) (r.mono fun o s B hs hB q => f o s B (List.mem_cons_of_mem _ hs) (fun b hb => List.mem_append_right _ (hB b hb)) q)
theorem SAll.all {R : Addr → Prop} (hR : ∀ o s B, P o s B → ∀ b ∈ B, R b) : ∀ {os : List (Option V)} {ss : List Sl} {A : List Addr}, SAll P os ss A → ∀ a ∈ A, R a
  | _, _, _, .nil, a, ha => by cases ha
  | _, _, _, .cons h r, a, ha => (List.mem_append.mp ha).elim (hR _ _ _ h a) (r.all hR a)
theorem SAll.at : ∀ {os : List (Option V)} {ss : List Sl} {A : List Addr} {k : Nat} {s : Sl}, SAll P os ss A → ss[k]? = some s →
    ∃ o A0 A1 A2, A = A0 ++ (A1 ++ A2) ∧ os[k]? = some o ∧ P o s A1 ∧ ∀ (P' : Option V → Sl → List Addr → Prop) (o' : Option V) (s' : Sl) (A1' : List Addr), P' o' s' A1' →
      (∀ o s B, s ∈ ss → (∀ b ∈ B, b ∈ A0 ∨ b ∈ A2) → P o s B → P' o s B) → SAll P' (os.set k o') (ss.set k s') (A0 ++ (A1' ++ A2))
  | _, _, _, _, _, .nil, e => by simp at e
  | _, _, _, 0, s, .cons (o := o) (A := A) (B := B) h r, e => by
    simp at e; subst e
    refine ⟨o, [], A, B, by simp, rfl, h, fun P' o' s' A1' h' f => ?_⟩
    have z : SAll P' _ _ (A1' ++ B) := .cons h' (r.mono (P' := P') fun o s B hs hB q => f o s B (List.mem_cons_of_mem _ hs) (fun b hb => .inr (hB b hb)) q)
    exact z
  | _, _, _, k + 1, s, .cons (o := o) (A := A) (B := B) h r, e => by
    obtain ⟨o2, A0, A1, A2, eA, eo, hp, f⟩ := r.at (k := k) (s := s) (by simpa using e)
    subst eA
    refine ⟨o2, A ++ A0, A1, A2, by simp, by simpa using eo, hp, fun P' o' s' A1' h' g => ?_⟩
    have z := f P' o' s' A1' h' fun o s B hs hB q => g o s B (List.mem_cons_of_mem _ hs) (fun b hb => (hB b hb).imp (fun x => List.mem_append_right _ x) id) q
    rw [List.append_assoc]
    exact .cons (g _ _ _ (List.mem_cons_self ..) (fun b hb => .inl (List.mem_append_left _ hb)) h) z
end
end PL
namespace PL
open PySem L2 Nh
noncomputable abbrev Sg := L2.St
structure FrF (K : PySem.W.Frag) (B F : Hp) (A : List Addr) (σ : Sg) (H : Hp) (E : List Sl) (xs : List V) (Xs : List Sl) : Prop where
  bf : Same B F
  fh : Same F H
  tf : Same (tups H) F
  sl : SAll (SlOk K F H σ) (xs.map some ++ σ) (Xs ++ E) A
  nd : A.Nodup
  fr : ∀ a ∈ A, F a = none
  len : xs.length = Xs.length
  pl : ∀ s ∈ E, s.isAl = false
noncomputable def Frm (K : PySem.W.Frag) (B : Hp) (σ : Sg) (H : Hp) (E : List Sl) (xs : List V) (Xs : List Sl) : Prop := ∃ F A, FrF K B F A σ H E xs Xs
noncomputable def Sl.val : Sl → Option PyData
  | .sh d => some d
  | .ow ds => some (.list ds)
  | .tx ps => some (.tuple (ps.map Pt.val))
  | .br d => some d
  | _ => none
noncomputable def look (E : List Sl) : Sl → Option PyData
  | .al i => (E[i]?).bind Sl.val
  | s => s.val
noncomputable def hot1 : Sl → Bool
  | .br _ => true
  | .tx _ => true
  | _ => false
noncomputable def hot (E : List Sl) : Sl → Bool
  | .al i => (E[i]?).any hot1
  | s => hot1 s
noncomputable def RpF (K : PySem.W.Frag) (F H : Hp) (v : V) : PyData → Prop
  | .list ds => ∃ a vs, v = .ref a ∧ SqL K H a vs ∧ RpA K F vs ds
  | d => Rp K F v d
noncomputable def over (F H : Hp) (A : List Addr) : Hp := fun b => if b ∈ A then H b else F b
theorem over_in {F H : Hp} {A : List Addr} {b : Addr} (h : b ∈ A) : over F H A b = H b := if_pos h
theorem over_out {F H : Hp} {A : List Addr} {b : Addr} (h : b ∉ A) : over F H A b = F b := if_neg h
section
variable {K : PySem.W.Frag} {B F : Hp} {A : List Addr} {σ : Sg} {H : Hp} {E : List Sl} {xs : List V} {Xs : List Sl} {v : V} {s : Sl} {d : PyData}
theorem RpF.of (h : Rp K F v d) (s : Same F H) : RpF K F H v d := by
  cases h with
  | lst h r => exact ⟨_, _, rfl, s.seq h, r⟩
  | non => exact .non
  | bl b => exact .bl b
  | int i => exact .int i
  | str x => exact .str x
  | tup h r => exact .tup h r
  | dct h r => exact .dct h r
theorem SlOk.val {o : Option V} {A1 : List Addr} (h : SlOk K F H σ o s A1) (hF : Same F H) (e : s.val = some d) : ∃ v, o = some v ∧ Rp K H v d ∧ (hot1 s = false → RpF K F H v d) := by
  cases s with
  | no => cases e
  | sh d' =>
    obtain ⟨rfl, v, rfl, r⟩ := h
    cases e
    exact ⟨v, rfl, r.same hF, fun _ => RpF.of r hF⟩
  | ow ds =>
    obtain ⟨l, vs, rfl, rfl, hl, r⟩ := h
    cases e
    exact ⟨_, rfl, .lst (SqL.of hl) (r.same hF), fun _ => ⟨_, _, rfl, SqL.of hl, r⟩⟩
  | od kvs => cases e
  | tx ps =>
    obtain ⟨t, vs, rfl, ht, r⟩ := h
    cases e
    exact ⟨_, rfl, .tup (SqT.of (hF _ _ ht)) (r.rp hF), fun z => by cases z⟩
  | al i => cases e
  | br d' =>
    obtain ⟨rfl, v, rfl, r⟩ := h
    cases e
    exact ⟨v, rfl, r, fun z => by cases z⟩
theorem FrF.slen (h : FrF K B F A σ H E xs Xs) : σ.length = E.length := by
  have e := h.sl.len
  have := h.len
  simp only [List.length_append, List.length_map] at e
  omega
theorem FrF.var {i : Nat} (h : FrF K B F A σ H E xs Xs) (e : E[i]? = some s) : ∃ o A1, σ[i]? = some o ∧ SlOk K F H σ o s A1 := by
  obtain ⟨o, A0, A1, A2, eA, eo, hp, _⟩ := h.sl.at (k := Xs.length + i) (s := s) (by rw [List.getElem?_append_right (by omega)]; simpa using e)
  rw [List.getElem?_append_right (by rw [List.length_map, h.len]; omega), List.length_map, h.len, Nat.add_sub_cancel_left] at eo
  exact ⟨o, A1, eo, hp⟩
theorem FrF.ext {k : Nat} (h : FrF K B F A σ H E xs Xs) (e : Xs[k]? = some s) : ∃ v A1, xs[k]? = some v ∧ SlOk K F H σ (some v) s A1 := by
  have hk : k < Xs.length := (List.getElem?_eq_some_iff.mp e).1
  obtain ⟨o, A0, A1, A2, eA, eo, hp, _⟩ := h.sl.at (k := k) (s := s) (by rw [List.getElem?_append_left hk]; exact e)
  rw [List.getElem?_append_left (by rw [List.length_map, h.len]; omega), List.getElem?_map] at eo
  cases q : xs[k]? with
  | none => rw [q] at eo; cases eo
  | some v => rw [q] at eo; cases eo; exact ⟨v, A1, rfl, hp⟩
theorem FrF.look {k : Nat} (h : FrF K B F A σ H E xs Xs) (e : Xs[k]? = some s) (q : look E s = some d) : ∃ v, xs[k]? = some v ∧ Rp K H v d ∧ (hot E s = false → RpF K F H v d) := by
  obtain ⟨v, A1, ev, hs⟩ := h.ext e
  cases s with
  | al i =>
    obtain ⟨rfl, w, ew, hw⟩ := hs
    cases ew
    cases ei : E[i]? with
    | none => simp [PL.look, ei] at q
    | some t =>
      obtain ⟨o, A2, eo, ht⟩ := h.var ei
      rw [hw] at eo
      cases eo
      obtain ⟨v', e', r, c⟩ := ht.val h.fh (d := d) (by simpa [PL.look, ei] using q)
      cases e'
      exact ⟨v, ev, r, fun z => c (by simpa [hot, ei] using z)⟩
  | no => cases q
  | od kvs => cases q
  | sh d' => obtain ⟨v', e', r, c⟩ := hs.val h.fh q; cases e'; exact ⟨v, ev, r, c⟩
  | ow ds => obtain ⟨v', e', r, c⟩ := hs.val h.fh q; cases e'; exact ⟨v, ev, r, c⟩
  | tx ps => obtain ⟨v', e', r, c⟩ := hs.val h.fh q; cases e'; exact ⟨v, ev, r, c⟩
  | br d' => obtain ⟨v', e', r, c⟩ := hs.val h.fh q; cases e'; exact ⟨v, ev, r, c⟩
theorem FrF.look0 (h : FrF K B F A σ H E (v :: xs) (s :: Xs)) (q : PL.look E s = some d) : Rp K H v d ∧ (hot E s = false → RpF K F H v d) := by
  obtain ⟨v', e, r⟩ := h.look (k := 0) rfl q
  cases e
  exact r
theorem FrF.look1 {w : V} {t : Sl} (h : FrF K B F A σ H E (w :: v :: xs) (t :: s :: Xs)) (q : PL.look E s = some d) : Rp K H v d ∧ (hot E s = false → RpF K F H v d) := by
  obtain ⟨v', e, r⟩ := h.look (k := 1) rfl q
  cases e
  exact r
theorem FrF.mutA (h : FrF K B F A σ H E xs Xs) : ∀ a ∈ A, (∃ us, H a = some (.lst us)) ∨ ∃ us, H a = some (.dK us) :=
  SAll.all (R := fun a => (∃ us, H a = some (.lst us)) ∨ ∃ us, H a = some (.dK us)) (fun _ _ _ q => q.mut) h.sl
theorem FrF.newA {p : Addr} (h : FrF K B F A σ H E xs Xs) (hp : H p = none) : p ∉ A := fun hm => by
  rcases h.mutA p hm with ⟨_, z⟩ | ⟨_, z⟩ <;> rw [hp] at z <;> cases z
theorem FrF.cold {u : V} {e : PyData} (h : FrF K B F A σ H E xs Xs) (r : Rp K H u e) (f : flat e = true) : Rp K F u e := (r.cold f).same h.tf
theorem FrF.coldA {us : List V} {es : List PyData} (h : FrF K B F A σ H E xs Xs) (r : RpA K H us es) (f : flatA es = true) : RpA K F us es := (r.cold f).same h.tf
theorem FrF.push (h : FrF K B F A σ H E xs Xs) (q : SlOk K F H σ (some v) s []) : FrF K B F A σ H E (v :: xs) (s :: Xs) :=
  ⟨h.bf, h.fh, h.tf, .cons (A := []) q h.sl, h.nd, h.fr, by simp [h.len], h.pl⟩
theorem FrF.pop (h : FrF K B F A σ H E (v :: xs) (s :: Xs)) : ∃ A', FrF K B F A' σ H E xs Xs := by
  obtain ⟨bf, fh, tf, sl, nd, fr, len, pl⟩ := h
  generalize hT : List.map some (v :: xs) ++ σ = T at sl
  generalize hS : (s :: Xs) ++ E = S at sl
  cases sl with
  | nil => cases hS
  | cons q r =>
    injection hT with _ hT
    injection hS with _ hS
    subst hT hS
    exact ⟨_, bf, fh, tf, r, (List.nodup_append.mp nd).2.1, fun a ha => fr a (List.mem_append_right _ ha), by simpa using len, pl⟩
theorem FrF.grow {H' : Hp} (h : FrF K B F A σ H E xs Xs) (g : Same H H') : FrF K B (fun b => if b ∈ A then none else H' b) A σ H' E xs Xs := by
  have nF : ∀ b o, F b = some o → b ∉ A := fun b o e hb => by rw [h.fr b hb] at e; cases e
  have FF : Same F (fun b => if b ∈ A then none else H' b) := fun b o e => by
    show (if b ∈ A then none else H' b) = some o
    rw [if_neg (nF b o e)]
    exact g _ _ (h.fh _ _ e)
  have hA : ∀ b ∈ A, H' b = H b := fun b hb => by
    rcases h.mutA b hb with ⟨_, z⟩ | ⟨_, z⟩ <;> rw [z, g _ _ z]
  refine ⟨h.bf.trans FF, fun b o e => ?_, fun b o e => ?_, h.sl.mono fun o s C _ hC q => q.stay FF (fun b hb => hA b (hC b hb)) fun _ => g, h.nd, fun a ha => if_pos ha, h.len, h.pl⟩
  · by_cases hb : b ∈ A
    · rw [if_pos hb] at e; cases e
    · rw [if_neg hb] at e; exact e
  · obtain ⟨e1, e2⟩ := Option.filter_eq_some_iff.mp e
    show (if b ∈ A then none else H' b) = some o
    by_cases hb : b ∈ A
    · rw [hA b hb] at e1
      rcases h.mutA b hb with ⟨_, z⟩ | ⟨_, z⟩ <;> rw [z] at e1 <;> cases e1 <;> cases e2
    · rw [if_neg hb]; exact e1
theorem FrF.newl {p : Addr} {vs : List V} {ds : List PyData} (h : FrF K B F A σ H E xs Xs) (r : RpA K F vs ds) (hp : H p = none) : FrF K B F (p :: A) σ (upd H p (.lst vs)) E (.ref p :: xs) (.ow ds :: Xs) := by
  have g : Same H (upd H p (.lst vs)) := same_new hp _
  have nA := h.newA hp
  refine ⟨h.bf, h.fh.trans g, fun b o e => ?_, .cons (A := [p]) ⟨p, vs, rfl, rfl, upd_same, r⟩ (h.sl.mono fun o s C _ hC q => q.stay (Same.refl _) (fun b hb => upd_ne fun z => nA (z ▸ hC b hb)) fun _ => g), List.nodup_cons.mpr ⟨nA, h.nd⟩, fun a ha => ?_, by simp [h.len], h.pl⟩
  · obtain ⟨e1, e2⟩ := Option.filter_eq_some_iff.mp e
    by_cases hb : b = p
    · subst hb; rw [upd_same] at e1; cases e1; cases e2
    · rw [upd_ne hb] at e1; exact h.tf b o (tups_of e1 e2)
  · rcases List.mem_cons.mp ha with z | z
    · subst z; exact h.fh.free hp
    · exact h.fr a z
theorem FrF.newt {p : Addr} {vs : List V} {ds : List PyData} (h : FrF K B F A σ H E xs Xs) (r : RpA K F vs ds) (hp : H p = none) : FrF K B (upd F p (.tup vs)) A σ (upd H p (.tup vs)) E (.ref p :: xs) (.sh (.tuple ds) :: Xs) := by
  have g : Same H (upd H p (.tup vs)) := same_new hp _
  have nA := h.newA hp
  have gF : Same F (upd F p (.tup vs)) := same_new (h.fh.free hp) _
  refine ⟨h.bf.trans gF, fun b o e => ?_, fun b o e => ?_, .cons (A := []) ⟨rfl, _, rfl, .tup (.inl (.inl upd_same)) (r.same gF)⟩ (h.sl.mono fun o s C _ hC q => q.stay gF (fun b hb => upd_ne fun z => nA (z ▸ hC b hb)) fun _ => g), h.nd, fun a ha => ?_, by simp [h.len], h.pl⟩
  · by_cases hb : b = p
    · subst hb; rw [upd_same] at e ⊢; exact e
    · rw [upd_ne hb] at e ⊢; exact h.fh _ _ e
  · obtain ⟨e1, e2⟩ := Option.filter_eq_some_iff.mp e
    by_cases hb : b = p
    · subst hb; rw [upd_same] at e1 ⊢; exact e1
    · rw [upd_ne hb] at e1 ⊢; exact h.tf b o (tups_of e1 e2)
  · have ne : a ≠ p := fun z => nA (z ▸ ha)
    rw [upd_ne ne]; exact h.fr a ha
theorem FrF.mut {i : Nat} {ds : List PyData} (h : FrF K B F A σ H E xs Xs) (e : E[i]? = some (.ow ds)) (c : ∀ s ∈ Xs, s.isBr = false) :
    ∃ l vs, σ[i]? = some (some (.ref l)) ∧ H l = some (.lst vs) ∧ RpA K F vs ds ∧ ∀ vs' ds', RpA K F vs' ds' → FrF K B F A σ (upd H l (.lst vs')) (E.set i (.ow ds')) xs Xs := by
  obtain ⟨o, A0, A1, A2, eA, eo, hp, put⟩ := h.sl.at (k := Xs.length + i) (s := .ow ds) (by rw [List.getElem?_append_right (by omega)]; simpa using e)
  rw [List.getElem?_append_right (by rw [List.length_map, h.len]; omega), List.length_map, h.len, Nat.add_sub_cancel_left] at eo
  obtain ⟨l, vs, rfl, rfl, hl, r⟩ := hp
  refine ⟨l, vs, eo, hl, r, fun vs' ds' r' => ?_⟩
  have hlA : l ∈ A := by rw [eA]; simp
  have nl : ∀ b, b ∈ A0 ∨ b ∈ A2 → b ≠ l := fun b hb z => by
    subst z
    have nd := h.nd
    rw [eA] at nd
    rcases hb with hb | hb
    · exact (List.nodup_append.mp nd).2.2 b hb b (by simp) rfl
    · exact (List.nodup_append.mp (List.nodup_append.mp nd).2.1).2.2 b (by simp) b hb rfl
  have lF : F l = none := h.fr l hlA
  have z := put (SlOk K F (upd H l (.lst vs')) σ) (some (.ref l)) (.ow ds') [l] ⟨l, vs', rfl, rfl, upd_same, r'⟩ fun o s C hs hC q => q.stay (Same.refl _) (fun b hb => upd_ne (nl b (hC b hb))) fun z => by
    rcases List.mem_append.mp hs with hs | hs
    · rw [c s hs] at z; cases z
    · have := h.pl s hs
      cases s <;> simp [Sl.isAl, Sl.isBr] at this z
  have e3 : (Xs ++ E).set (Xs.length + i) (.ow ds') = Xs ++ E.set i (.ow ds') := by
    rw [List.set_append_right _ _ (by omega), Nat.add_sub_cancel_left]
  have e2 : (List.map some xs ++ σ).set (Xs.length + i) (some (V.ref l)) = List.map some xs ++ σ := by
    rw [← h.len, List.set_append_right _ _ (by rw [List.length_map]; omega), List.length_map, Nat.add_sub_cancel_left]
    congr 1
    exact List.ext_getElem? fun j => by
      by_cases hj : i = j
      · subst hj
        rw [List.getElem?_set_self' , eo]; rfl
      · rw [List.getElem?_set_ne hj]
  rw [e2, e3, ← eA] at z
  refine ⟨h.bf, fun b o q => ?_, ?_, z, h.nd, h.fr, h.len, fun s hs => ?_⟩
  · rw [upd_ne (fun z => by rw [z, lF] at q; cases q)]
    exact h.fh _ _ q
  · rw [tups_upd hl]; exact h.tf
  · rcases List.mem_or_eq_of_mem_set hs with hs | hs
    · exact h.pl s hs
    · subst hs; rfl
theorem FrF.frzAt {k : Nat} (h : FrF K B F A σ H E xs Xs) (e : (Xs ++ E)[k]? = some s) (q : s.val = some d) (c : s.isAl = false) :
    ∃ F' A' v, (xs.map some ++ σ)[k]? = some (some v) ∧ Rp K F' v d ∧ Same B F' ∧ Same F' H ∧ Same (tups H) F' ∧ SAll (SlOk K F' H σ) (xs.map some ++ σ) ((Xs ++ E).set k (.sh d)) A' ∧ A'.Nodup ∧ ∀ a ∈ A', F' a = none := by
  obtain ⟨o, A0, A1, A2, eA, eo, hp, put⟩ := h.sl.at e
  have nd := h.nd
  rw [eA] at nd
  have nA1 : ∀ b o, F b = some o → b ∉ A1 := fun b o e hb => by
    have := h.fr b (by rw [eA]; simp [hb])
    rw [this] at e; cases e
  have FF : Same F (over F H A1) := fun b o e => by rw [over_out (nA1 b o e)]; exact e
  obtain ⟨v, rfl, r⟩ : ∃ v, o = some v ∧ Rp K (over F H A1) v d := by
    cases s with
    | no => cases q
    | od kvs => cases q
    | al i => cases c
    | br d' => cases c
    | sh d' =>
      obtain ⟨rfl, v, rfl, r⟩ := hp
      cases q
      exact ⟨v, rfl, r.same FF⟩
    | ow ds =>
      obtain ⟨l, vs, rfl, rfl, hl, r⟩ := hp
      cases q
      exact ⟨_, rfl, .lst (SqL.of ((over_in (by simp)).trans hl)) (r.same FF)⟩
    | tx ps =>
      obtain ⟨t, vs, rfl, ht, r⟩ := hp
      cases q
      refine ⟨_, rfl, .tup (SqT.of (FF _ _ ht)) ?_⟩
      have r' : PtsOk K (over F H A1) (over F H A1) vs ps A1 := r.stay FF fun b hb => over_in hb
      exact r'.rp (Same.refl _)
  have e2 : (List.map some xs ++ σ).set k (some v) = List.map some xs ++ σ := List.ext_getElem? fun j => by
    by_cases hj : k = j
    · subst hj
      rw [List.getElem?_set_self', eo]; rfl
    · rw [List.getElem?_set_ne hj]
  have z := put (SlOk K (over F H A1) H σ) (some v) (.sh d) [] ⟨rfl, v, rfl, r⟩ fun o s C _ hC q => q.stay FF (fun b _ => rfl) fun _ => Same.refl _
  rw [e2] at z
  refine ⟨over F H A1, A0 ++ A2, v, eo, r, h.bf.trans FF, fun b o e => ?_, fun b o e => FF _ _ (h.tf _ _ e), by simpa using z, ?_, fun a ha => ?_⟩
  · by_cases hb : b ∈ A1
    · rw [over_in hb] at e; exact e
    · rw [over_out hb] at e; exact h.fh _ _ e
  · exact List.Nodup.sublist (List.Sublist.append (List.Sublist.refl _) (List.sublist_append_right _ _)) nd
  · have hn : a ∉ A1 := fun hm => by
      rcases List.mem_append.mp ha with z | z
      · exact (List.nodup_append.mp nd).2.2 a z a (by simp [hm]) rfl
      · exact (List.nodup_append.mp (List.nodup_append.mp nd).2.1).2.2 a hm a z rfl
    rw [over_out hn]
    exact h.fr a (by rw [eA]; rcases List.mem_append.mp ha with z | z <;> simp [z])
end
noncomputable def frz (E : List Sl) : Sl → Option (PyData × List Sl)
  | .sh d => some (d, E)
  | .ow ds => some (.list ds, E)
  | .tx ps => some (.tuple (ps.map Pt.val), E)
  | .br d => if flat d then some (d, E) else none
  | .al i => match E[i]? with
    | some (.sh d) => some (d, E)
    | some (.ow ds) => some (.list ds, E.set i (.sh (.list ds)))
    | some (.tx ps) => some (.tuple (ps.map Pt.val), E.set i (.sh (.tuple (ps.map Pt.val))))
    | _ => none
  | _ => none
section
variable {K : PySem.W.Frag} {B F : Hp} {A : List Addr} {σ : Sg} {H : Hp} {E E' : List Sl} {xs : List V} {Xs : List Sl} {v : V} {s : Sl} {d : PyData}
theorem FrF.frzVar {i : Nat} (h : FrF K B F A σ H E xs Xs) (e : E[i]? = some s) (q : s.val = some d) : ∃ F' A' v, σ[i]? = some (some v) ∧ Rp K F' v d ∧ FrF K B F' A' σ H (E.set i (.sh d)) xs Xs := by
  obtain ⟨F', A', v, ev, r, b1, b2, b3, sl, nd, fr⟩ := h.frzAt (k := Xs.length + i) (by rw [List.getElem?_append_right (by omega)]; simpa using e) q (h.pl s (List.mem_of_getElem? e))
  rw [List.getElem?_append_right (by rw [List.length_map, h.len]; omega), List.length_map, h.len, Nat.add_sub_cancel_left] at ev
  have e3 : (Xs ++ E).set (Xs.length + i) (.sh d) = Xs ++ E.set i (.sh d) := by
    rw [List.set_append_right _ _ (by omega), Nat.add_sub_cancel_left]
  rw [e3] at sl
  refine ⟨F', A', v, ev, r, b1, b2, b3, sl, nd, fr, h.len, fun s hs => ?_⟩
  rcases List.mem_or_eq_of_mem_set hs with hs | hs
  · exact h.pl s hs
  · subst hs; rfl
theorem FrF.frz0 (h : FrF K B F A σ H E (v :: xs) (s :: Xs)) (q : PL.frz E s = some (d, E')) : ∃ F' A', FrF K B F' A' σ H E' (v :: xs) (.sh d :: Xs) := by
  have key : s.val = some d → s.isAl = false → E = E' → ∃ F' A', FrF K B F' A' σ H E' (v :: xs) (.sh d :: Xs) := fun q' c e => by
    subst e
    obtain ⟨F', A', v', ev, r, b1, b2, b3, sl, nd, fr⟩ := h.frzAt (k := 0) rfl q' c
    exact ⟨F', A', b1, b2, b3, sl, nd, fr, by simpa using h.len, h.pl⟩
  have al : ∀ i t, s = .al i → E[i]? = some t → t.val = some d → E' = E.set i (.sh d) → ∃ F' A', FrF K B F' A' σ H E' (v :: xs) (.sh d :: Xs) := fun i t es ei qt eE => by
    subst es eE
    obtain ⟨v', A1, ev, hs⟩ := h.ext (k := 0) rfl
    cases ev
    obtain ⟨rfl, w, ew, hw⟩ := hs
    cases ew
    obtain ⟨F', A', w, ew, r, h'⟩ := h.frzVar ei qt
    rw [hw] at ew
    cases ew
    obtain ⟨A2, h2⟩ := h'.pop
    exact ⟨F', A2, h2.push ⟨rfl, _, rfl, r⟩⟩
  cases s with
  | no => cases q
  | od kvs => cases q
  | sh d' => cases q; exact key rfl rfl rfl
  | ow ds => cases q; exact key rfl rfl rfl
  | tx ps => cases q; exact key rfl rfl rfl
  | br d' =>
    simp only [PL.frz] at q
    split at q
    · rename_i hf
      cases q
      obtain ⟨r, _⟩ := h.look0 (d := d) rfl
      obtain ⟨A2, h2⟩ := h.pop
      exact ⟨F, A2, h2.push ⟨rfl, _, rfl, h.cold r hf⟩⟩
    · cases q
  | al i =>
    simp only [PL.frz] at q
    split at q
    · rename_i d' ei
      cases q
      refine al i _ rfl ei rfl ?_
      exact List.ext_getElem? fun j => by
        by_cases hj : i = j
        · subst hj; rw [List.getElem?_set_self', ei]; rfl
        · rw [List.getElem?_set_ne hj]
    · rename_i ds ei
      cases q
      exact al i _ rfl ei rfl rfl
    · rename_i ps ei
      cases q
      exact al i _ rfl ei rfl rfl
    · cases q
theorem FrF.store {i : Nat} (h : FrF K B F A σ H E (v :: xs) (s :: Xs)) (c : s.isAl = false) (cx : ∀ s ∈ Xs, s.isAl = false) (hi : i < E.length) : ∃ A', FrF K B F A' (σ.set i (some v)) H (E.set i s) xs Xs := by
  have hlen := h.len
  have hsl := h.slen
  obtain ⟨bf, fh, tf, sl, nd, fr, len, pl⟩ := h
  generalize hT : List.map some (v :: xs) ++ σ = T at sl
  generalize hS : (s :: Xs) ++ E = S at sl
  cases sl with
  | nil => cases hS
  | cons q r =>
    rename_i A1 _ _ A2
    injection hT with h1 hT
    injection hS with h2 hS
    subst h1 h2 hT hS
    have len' : xs.length = Xs.length := by simpa using len
    have r : SAll (SlOk K F H σ) (List.map some xs ++ σ) (Xs ++ E) A2 := r
    obtain ⟨t, et⟩ : ∃ t, E[i]? = some t := ⟨E[i], List.getElem?_eq_getElem hi⟩
    obtain ⟨o, C0, C1, C2, eA, eo, hp, put⟩ := r.at (k := Xs.length + i) (s := t) (by rw [List.getElem?_append_right (by omega)]; simpa using et)
    have all : ∀ s' ∈ Xs ++ E, s'.isAl = false := fun s' hs => (List.mem_append.mp hs).elim (cx s') (pl s')
    have chg : ∀ (o : Option V) (s' : Sl) (C : List Addr), s'.isAl = false → SlOk K F H σ o s' C → SlOk K F H (σ.set i (some v)) o s' C := fun o s' C hc z => by
      cases s' <;> first | exact z | cases hc
    have z := put (SlOk K F H (σ.set i (some v))) (some v) s A1 (chg _ _ _ c q) fun o s' C hs _ z => chg o s' C (all s' hs) z
    have e3 : (Xs ++ E).set (Xs.length + i) s = Xs ++ E.set i s := by
      rw [List.set_append_right _ _ (by omega), Nat.add_sub_cancel_left]
    have e2 : (List.map some xs ++ σ).set (Xs.length + i) (some v) = List.map some xs ++ σ.set i (some v) := by
      rw [← len', List.set_append_right _ _ (by rw [List.length_map]; omega), List.length_map, Nat.add_sub_cancel_left]
    rw [e2, e3] at z
    refine ⟨_, bf, fh, tf, z, ?_, fun a ha => fr a ?_, len', fun s' hs => ?_⟩
    · rw [eA] at nd
      have p : (C0 ++ (A1 ++ C2)).Perm (A1 ++ (C0 ++ C2)) := by
        rw [← List.append_assoc, ← List.append_assoc]
        exact List.Perm.append_right _ List.perm_append_comm
      refine p.nodup_iff.mpr (List.Nodup.sublist ?_ nd)
      exact List.Sublist.append (List.Sublist.refl _) (List.Sublist.append (List.Sublist.refl _) (List.sublist_append_right _ _))
    · rw [eA]
      simp only [List.mem_append] at ha ⊢
      rcases ha with z | z | z
      · exact .inr (.inl z)
      · exact .inl z
      · exact .inr (.inr (.inr z))
    · rcases List.mem_or_eq_of_mem_set hs with hs | hs
      · exact pl s' hs
      · subst hs; exact c
end
end PL
namespace PL
open PySem L2 Nh
noncomputable abbrev PEv := List Sl → Option (Sl × List Sl)
noncomputable abbrev PTv := List Sl → Option (Bool × List Sl)
noncomputable abbrev PAv := List Sl → Option (List Sl × List Sl)
noncomputable abbrev PDv := List Sl → Option (List PyData × List Sl)
inductive Fl where
  | nx | bk | ct | rt (r : Sl)
noncomputable abbrev PSv := List Sl → Option (List Sl × Fl)
noncomputable abbrev Calm (Xs : List Sl) : Prop := ∀ s ∈ Xs, s.isBr = false
noncomputable abbrev Still (Xs : List Sl) : Prop := ∀ s ∈ Xs, s.isAl = false
theorem Still.calm {Xs : List Sl} (h : Still Xs) : Calm Xs := fun s hs => by
  have := h s hs
  cases s <;> simp [Sl.isAl, Sl.isBr] at this ⊢
theorem Still.nil {Xs : List Sl} (h : Xs = []) : Still Xs := fun s hs => by subst h; cases hs
theorem Calm.nil {Xs : List Sl} (h : Xs = []) : Calm Xs := (Still.nil h).calm
theorem Calm.cons {Xs : List Sl} {s : Sl} (h : Calm Xs) (hs : s.isBr = false) : Calm (s :: Xs) := fun t ht => (List.mem_cons.mp ht).elim (fun e => e ▸ hs) (h t)
noncomputable def rd (K : PySem.W.Frag) (m : Bool) (f : PEv) : TE := fun σ H Q => ∃ B E xs Xs r E', Frm K B σ H E xs Xs ∧ (m = true → Calm Xs) ∧ f E = some (r, E') ∧ ∀ v H', Frm K B σ H' E' (v :: xs) (r :: Xs) → Q v H'
noncomputable def rt (K : PySem.W.Frag) (m : Bool) (f : PTv) : TT := fun σ H Q => ∃ B E xs Xs b E', Frm K B σ H E xs Xs ∧ (m = true → Calm Xs) ∧ f E = some (b, E') ∧ ∀ H', Frm K B σ H' E' xs Xs → Q b H'
noncomputable def ra (K : PySem.W.Frag) (m : Bool) (f : PAv) : TA := fun σ H Q => ∃ B E xs Xs rs E', Frm K B σ H E xs Xs ∧ (m = true → Calm Xs) ∧ f E = some (rs, E') ∧ ∀ vs H', vs.length = rs.length → Frm K B σ H' E' (vs.reverse ++ xs) (rs.reverse ++ Xs) → Q vs H'
noncomputable def raD (K : PySem.W.Frag) (m : Bool) (f : PDv) : TA := fun σ H Q => ∃ B E xs Xs ds E', Frm K B σ H E xs Xs ∧ (m = true → Calm Xs) ∧ f E = some (ds, E') ∧ ∀ vs H', vs.length = ds.length → Frm K B σ H' E' (vs.reverse ++ xs) (ds.reverse.map .sh ++ Xs) → Q vs H'
noncomputable def rs (K : PySem.W.Frag) (g : PSv) : TS := fun D σ H => ∃ B E xs Xs E' fl, Frm K B σ H E xs Xs ∧ Xs = [] ∧ g E = some (E', fl) ∧ match fl with
  | .nx => ∀ σ' H', Frm K B σ' H' E' xs Xs → D.nx σ' H'
  | .bk => ∀ σ' H', Frm K B σ' H' E' xs Xs → D.bk σ' H'
  | .ct => ∀ σ' H', Frm K B σ' H' E' xs Xs → D.ct σ' H'
  | .rt r => ∀ σ' v H', Frm K B σ' H' E' (v :: xs) (r :: Xs) → D.rt v H'
noncomputable def EX (X : Cx) (e : Expr) (m : Bool) (f : PEv) : Prop := PE X e (rd X.K m f)
noncomputable def TX (X : Cx) (e : Expr) (m : Bool) (f : PTv) : Prop := PT X e (rt X.K m f)
noncomputable def WX (X : Cx) (e : Expr) (m : Bool) (f : PTv) : Prop := PW X e (rt X.K m f)
noncomputable def AX (X : Cx) (es : List Expr) (m : Bool) (f : PAv) : Prop := PA X es (ra X.K m f)
noncomputable def DX (X : Cx) (es : List Expr) (m : Bool) (f : PDv) : Prop := PA X es (raD X.K m f)
noncomputable def SX (X : Cx) (s : Stmt) (g : PSv) : Prop := PS X s (rs X.K g)
noncomputable def SSX (X : Cx) (s : List Stmt) (g : PSv) : Prop := PSs X s (rs X.K g)
section
variable {X : Cx}
theorem pe_imp {e : Expr} {t t' : TE} (h : PE X e t) (k : ∀ σ H Q, t' σ H Q → t σ H Q) : PE X e t' := fun pins s σ H Q I q => h pins s σ H Q I (k σ H Q q)
theorem pt_imp {e : Expr} {t t' : TT} (h : PT X e t) (k : ∀ σ H Q, t' σ H Q → t σ H Q) : PT X e t' := fun pins s σ H Q I q => h pins s σ H Q I (k σ H Q q)
theorem pw_imp {e : Expr} {t t' : TT} (h : PW X e t) (k : ∀ σ H Q, t' σ H Q → t σ H Q) : PW X e t' := fun whole pins s σ H Q I q => h whole pins s σ H Q I (k σ H Q q)
theorem pa_imp {es : List Expr} {t t' : TA} (h : PA X es t) (k : ∀ σ H Q, t' σ H Q → t σ H Q) : PA X es t' := fun pos pins s σ H Q I q => h pos pins s σ H Q I (k σ H Q q)
theorem ps_imp {st : Stmt} {t t' : TS} (h : PS X st t) (k : ∀ D σ H, t' D σ H → t D σ H) : PS X st t' := fun pins s σ H D I q => h pins s σ H D I (k D σ H q)
theorem pss_imp {st : List Stmt} {t t' : TS} (h : PSs X st t) (k : ∀ D σ H, t' D σ H → t D σ H) : PSs X st t' := fun pins s σ H D I q => h pins s σ H D I (k D σ H q)
end
noncomputable def ofD : PyData → Option V
  | .none => some .non
  | .bool b => some (.bl b)
  | .int i => some (.int i)
  | .str x => some (.str x)
  | _ => none
theorem ofD_rp {K : PySem.W.Frag} {H : Hp} {d : PyData} {v : V} (h : ofD d = some v) : Rp K H v d := by
  cases d <;> simp [ofD] at h <;> subst h <;> constructor
noncomputable def pVar (i : Nat) : PEv := fun E => match E[i]? with
  | some (.sh d) => some (.sh d, E)
  | some (.ow _) => some (.al i, E)
  | some (.od _) => some (.al i, E)
  | some (.tx _) => some (.al i, E)
  | _ => none
noncomputable def pC (d : PyData) : PEv := fun E => some (.sh d, E)
section
variable {X : Cx} {K : PySem.W.Frag}
theorem xe_var (i : Nat) {x : Str} {pos : Pos} (hN : X.N[i]? = some x := by rfl) (hv : Vis X.env.scope x := by first | exact Or.inl rfl | exact Or.inr (Or.inl rfl) | exact Or.inr (Or.inr rfl)) (hd : (x == ("__debug__" : Str)) = false := by decide)
    (hcd : (x == ("__classdict__" : Str)) = false := by decide) : EX X (.Name x pos) false (pVar i) := by
  refine pe_imp (pe_var hN hv hd hcd) fun σ H Q h => ?_
  obtain ⟨B, E, xs, Xs, r, E', ⟨F, A, fr⟩, _, e, q⟩ := h
  unfold pVar at e
  split at e
  · rename_i d ei
    cases e
    obtain ⟨o, A1, eo, rfl, v, rfl, rp⟩ := fr.var ei
    exact ⟨v, eo, q v H ⟨F, A, fr.push ⟨rfl, v, rfl, rp⟩⟩⟩
  · rename_i ds ei
    cases e
    obtain ⟨o, A1, eo, l, vs, rfl, _⟩ := fr.var ei
    exact ⟨_, eo, q _ H ⟨F, A, fr.push ⟨rfl, _, rfl, eo⟩⟩⟩
  · rename_i ds ei
    cases e
    obtain ⟨o, A1, eo, l, vs, A2, rfl, _⟩ := fr.var ei
    exact ⟨_, eo, q _ H ⟨F, A, fr.push ⟨rfl, _, rfl, eo⟩⟩⟩
  · rename_i ds ei
    cases e
    obtain ⟨o, A1, eo, l, vs, rfl, _⟩ := fr.var ei
    exact ⟨_, eo, q _ H ⟨F, A, fr.push ⟨rfl, _, rfl, eo⟩⟩⟩
  · cases e
theorem xe_c {e : Expr} {v : V} (d : PyData) (h : PE X e (tC v)) (hd : ofD d = some v := by rfl) : EX X e false (pC d) := by
  refine pe_imp h fun σ H Q h => ?_
  obtain ⟨B, E, xs, Xs, r, E', ⟨F, A, fr⟩, _, e, q⟩ := h
  cases e
  exact q v H ⟨F, A, fr.push ⟨rfl, v, rfl, ofD_rp hd⟩⟩
theorem xe_int {i j pos} : EX X (.Constant (.int i) j pos) false (pC (.int i)) := xe_c _ pe_int
theorem xe_bl {b j pos} : EX X (.Constant (.bool b) j pos) false (pC (.bool b)) := xe_c _ pe_bl
theorem xe_str {x j pos} : EX X (.Constant (.str x) j pos) false (pC (.str x)) := xe_c _ pe_str
end
noncomputable abbrev P2 := List Sl → Sl → Sl → Option (Sl × List Sl)
noncomputable def BinOk (K : PySem.W.Frag) (r : R2) (p : P2) : Prop := ∀ {B F : Hp} {A : List Addr} {σ : Sg} {H : Hp} {E : List Sl} {xs : List V} {Xs : List Sl} {v1 v2 : V} {s1 s2 res : Sl} {E' : List Sl} {Q : VK},
  FrF K B F A σ H E (v2 :: v1 :: xs) (s2 :: s1 :: Xs) → p E s1 s2 = some (res, E') → (∀ v H', Frm K B σ H' E' (v :: xs) (res :: Xs) → Q v H') → r v1 v2 H Q
noncomputable def pBin (p : P2) (m2 : Bool) (f g : PEv) : PEv := fun E => (f E).bind fun a => if m2 && a.1.isBr then none else (g a.2).bind fun b => p b.2 a.1 b.1
theorem rd_bin {K : PySem.W.Frag} {r : R2} {p : P2} (hp : BinOk K r p) {m1 m2 : Bool} {f g : PEv} {σ : Sg} {H : Hp} {Q : VK} (h : rd K (m1 || m2) (pBin p m2 f g) σ H Q) : tOp r (rd K m1 f) (rd K m2 g) σ H Q := by
  obtain ⟨B, E, xs, Xs, res, E', fr, c, e, q⟩ := h
  obtain ⟨⟨s1, E1⟩, e1, e⟩ := Option.bind_eq_some_iff.mp e
  by_cases hb : (m2 && s1.isBr) = true
  · rw [if_pos hb] at e; cases e
  rw [if_neg hb] at e
  obtain ⟨⟨s2, E2⟩, e2, e⟩ := Option.bind_eq_some_iff.mp e
  refine ⟨B, E, xs, Xs, s1, E1, fr, fun z => c (by simp [z]), e1, fun v1 H1 fr1 => ?_⟩
  refine ⟨B, E1, v1 :: xs, s1 :: Xs, s2, E2, fr1, fun z => ?_, e2, fun v2 H2 fr2 => ?_⟩
  · refine Calm.cons (c (by simp [z])) ?_
    cases hs : s1.isBr with
    | false => rfl
    | true => exact absurd (by simp [z, hs]) hb
  · obtain ⟨F, A, fr2⟩ := fr2
    exact hp fr2 e q
noncomputable def sc2 (op : PyData → PyData → Option PyData) : P2 := fun E s1 s2 => (look E s1).bind fun d1 => (look E s2).bind fun d2 => (op d1 d2).map fun d => (.sh d, E)
theorem FrF.res2 {K : PySem.W.Frag} {B F : Hp} {A : List Addr} {σ : Sg} {H : Hp} {E : List Sl} {xs : List V} {Xs : List Sl} {v1 v2 v : V} {s1 s2 s : Sl} (h : FrF K B F A σ H E (v2 :: v1 :: xs) (s2 :: s1 :: Xs)) (q : SlOk K F H σ (some v) s []) : Frm K B σ H E (v :: xs) (s :: Xs) := by
  obtain ⟨A1, h⟩ := h.pop
  obtain ⟨A2, h⟩ := h.pop
  exact ⟨F, A2, h.push q⟩
theorem sc2_ok {K : PySem.W.Frag} {r : R2} {op : PyData → PyData → Option PyData} (h : ∀ (d1 d2 d : PyData) (v1 v2 : V) (H : Hp) (Q : VK), op d1 d2 = some d → Rp K H v1 d1 → Rp K H v2 d2 → ∃ v, ofD d = some v ∧ (Q v H → r v1 v2 H Q)) : BinOk K r (sc2 op) := by
  intro B F A σ H E xs Xs v1 v2 s1 s2 res E' Q fr e q
  obtain ⟨d1, e1, e⟩ := Option.bind_eq_some_iff.mp e
  obtain ⟨d2, e2, e⟩ := Option.bind_eq_some_iff.mp e
  obtain ⟨d, e3, e⟩ := Option.map_eq_some_iff.mp e
  cases e
  obtain ⟨v, hv, k⟩ := h d1 d2 d v1 v2 H Q e3 (fr.look1 e1).1 (fr.look0 e2).1
  exact k (q v H (fr.res2 ⟨rfl, v, rfl, ofD_rp hv⟩))
section
variable {X : Cx} {a b : Expr} {m1 m2 : Bool} {f g : PEv} {pos : Pos}
theorem xe_op {op : Operator} {r : R2} {p : P2} (ho : OpR X (binaryOp op) r) (hp : BinOk X.K r p) (ha : EX X a m1 f) (hb : EX X b m2 g) : EX X (.BinOp a op b pos) (m1 || m2) (pBin p m2 f g) := pe_imp (pe_op ho ha hb) fun _ _ _ h => rd_bin hp h
theorem xe_cmp {op : CmpOp} {r : R2} {p : P2} (ho : OpR X (compareOp op) r) (hp : BinOk X.K r p) (ha : EX X a m1 f) (hb : EX X b m2 g) (hm : behindInMarks op b = false) : EX X (.Compare a [op] [b] pos) (m1 || m2) (pBin p m2 f g) := pe_imp (pe_cmpR ho ha hb hm) fun _ _ _ h => rd_bin hp h
noncomputable def isB (f : PEv) : PTv := fun E => (f E).bind fun a => match a.1 with
  | .sh (.bool b) => some (b, a.2)
  | _ => none
theorem rt_isB {K : PySem.W.Frag} {m : Bool} {f : PEv} {σ : Sg} {H : Hp} {Q : Bool → Hp → Prop} (h : rt K m (isB f) σ H Q) : rd K m f σ H (fun x H' => ∃ k, x = .bl k ∧ Q k H') := by
  obtain ⟨B, E, xs, Xs, b, E', fr, c, e, q⟩ := h
  obtain ⟨⟨s, E1⟩, e1, e⟩ := Option.bind_eq_some_iff.mp e
  refine ⟨B, E, xs, Xs, s, E1, fr, c, e1, fun v H' ⟨F, A, fr'⟩ => ?_⟩
  simp only at e
  split at e
  · cases e
    obtain ⟨r, _⟩ := fr'.look0 (d := .bool b) rfl
    cases r
    obtain ⟨A', fr2⟩ := fr'.pop
    exact ⟨b, rfl, q H' ⟨F, A', fr2⟩⟩
  · cases e
theorem xt_cmp {op : CmpOp} {r : R2} {p : P2} (ho : OpR X (compareOp op) r) (hp : BinOk X.K r p) (ha : EX X a m1 f) (hb : EX X b m2 g) (hm : behindInMarks op b = false) : TX X (.Compare a [op] [b] pos) (m1 || m2) (isB (pBin p m2 f g)) := by
  refine pt_imp (pt_cmpR ho ha hb hm) fun σ H Q h => ?_
  exact rd_bin hp (rt_isB h)
end
noncomputable def bnd : Int := 2 ^ 20000
noncomputable def okMul (i j : Int) : Bool := decide (-(2 ^ 64) < i ∧ i < 2 ^ 64) || decide (-(2 ^ 64) < j ∧ j < 2 ^ 64) || decide (-bnd < i ∧ i < bnd ∧ -bnd < j ∧ j < bnd)
noncomputable def okDiv (j : Int) : Bool := decide (0 < j ∧ j < 2 ^ 200)
noncomputable def iOp (C : Int → Int → Bool) (g : Int → Int → PyData) : PyData → PyData → Option PyData
  | .int i, .int j => if C i j then some (g i j) else none
  | _, _ => none
noncomputable abbrev rIC (C : Int → Int → Bool) (g : Int → Int → V) : R2 := rI (fun i j => C i j = true) g
theorem iOp_ok {K : PySem.W.Frag} {C : Int → Int → Bool} {g : Int → Int → PyData} {g' : Int → Int → V} (hg : ∀ i j, ofD (g i j) = some (g' i j)) : BinOk K (rIC C g') (sc2 (iOp C g)) := by
  refine sc2_ok fun d1 d2 d v1 v2 H Q e r1 r2 => ?_
  unfold iOp at e
  split at e
  · split at e
    · cases e
      cases r1
      cases r2
      rename_i hC
      exact ⟨_, hg _ _, fun q => ⟨_, _, rfl, rfl, hC, q⟩⟩
    · cases e
  · cases e
section
variable {X : Cx}
theorem intBits_big {i : Int} (h1 : -bnd < i) (h2 : i < bnd) : Builtin.Int.intBits i ≤ 2 ^ 20 := by
  unfold bnd at h1 h2
  have h : i.natAbs < 2 ^ 20000 := by
    have e : ((2 ^ 20000 : Nat) : Int) = 2 ^ 20000 := Int.natCast_pow 2 20000
    generalize (2 ^ 20000 : Int) = z at h1 h2 e
    generalize (2 ^ 20000 : Nat) = y at e ⊢
    omega
  unfold Builtin.Int.intBits
  split
  · exact Nat.zero_le _
  · rename_i hz
    have hz' : i ≠ 0 := by simpa using hz
    have : i.natAbs.log2 < 20000 := (Nat.log2_lt (by omega)).mpr h
    omega
theorem okMul_ok {i j : Int} (h : okMul i j = true) : PySem.IntMulOk i j := by
  unfold okMul at h
  simp only [Bool.or_eq_true, decide_eq_true_eq] at h
  rcases h with (h | h) | h
  · exact CMul.ok (.inl h)
  · exact CMul.ok (.inr h)
  · exact PySem.IntMulOk.of_bits (intBits_big h.1 h.2.1) (intBits_big h.2.2.1 h.2.2.2)
end
end PL
namespace PL
open PySem L2 Nh PyProof.Rows
noncomputable abbrev SgT := L2.St
section
variable {X : Cx}
theorem OpR.or {f : Value → Value → Sem Value} {r r' : R2} (h : OpR X f r) (h' : OpR X f r') : OpR X f (fun x y H Q => r x y H Q ∨ r' x y H Q) := by
  intro pins s σ H x y v u Q I rx ry q
  rcases q with q | q
  · exact h pins s σ H x y v u Q I rx ry q
  · exact h' pins s σ H x y v u Q I rx ry q
theorem OpR.imp {f : Value → Value → Sem Value} {r r' : R2} (h : OpR X f r) (k : ∀ x y H Q, r' x y H Q → r x y H Q) : OpR X f r' := fun pins s σ H x y v u Q I rx ry q => h pins s σ H x y v u Q I rx ry (k _ _ _ _ q)
noncomputable def rCatS (K : PySem.W.Frag) : R2 := fun x y H Q => ∃ l b xs zs, x = .ref l ∧ y = .ref b ∧ SqL K H l xs ∧ SqL K H b zs ∧ xs.length + zs.length ≤ sizeLine ∧ ∀ p, H p = none → Q (.ref p) (upd H p (.lst (xs ++ zs)))
theorem op_catS : OpR X (binaryOp .Add) (rCatS X.K) := by
  intro pins s σ H x y v u Q I rx ry h
  obtain ⟨l, b, xs, zs, rfl, rfl, hH, hB, hz, q⟩ := h
  cases rx
  cases ry
  obtain ⟨its, r, p1, z1⟩ := I.list hH
  obtain ⟨its2, r2, p2, z2⟩ := I.list hB
  obtain ⟨⟨cls, dd, data, sl⟩, ho, hc, n, hd⟩ := p1.isList
  obtain ⟨⟨cls2, dd2, data2, sl2⟩, ho2, hc2, n2, hd2⟩ := p2.isList
  simp only at hc hd hc2 hd2
  subst hc hd hc2 hd2
  have l1 := r.length
  have l2 := r2.length
  refine concat_meets ⟨_, ho, rfl⟩ ⟨_, ho2, rfl⟩ noFill_list_add seq_list_add PySem.F.slot_list_add PySem.F.entry_list_add (PySem.F.args_list_add_2 _ _) (list_addW l b its.toArray its2.toArray n n2 dd dd2 sl sl2 (by simp only [List.size_toArray]; omega)) ⟨ho, ho2, ?_⟩
  have ea : its.toArray ++ its2.toArray = (its ++ its2).toArray := by simp
  rw [ea]
  exact ⟨.ref _, _, I.lnew (t' := s.toks) (r.append r2) (by rw [List.length_append]; omega), rfl, q _ I.fresh⟩
noncomputable def rRepS (K : PySem.W.Frag) : R2 := fun x y H Q => ∃ l k xs, x = .ref l ∧ y = .int k ∧ SqL K H l xs ∧ -(2 ^ 63) ≤ k ∧ k < 2 ^ 63 ∧ xs.length * k.toNat ≤ sizeLine ∧
  ∀ p, H p = none → Q (.ref p) (upd H p (.lst (List.replicate k.toNat xs).flatten))
theorem op_repS : OpR X (binaryOp .Mult) (rRepS X.K) := by
  intro pins s σ H x y v u Q I rx ry h
  obtain ⟨l, k, xs, rfl, rfl, hH, h1, h2, hz, q⟩ := h
  cases rx
  obtain ⟨t, rfl⟩ := ry
  obtain ⟨its, r, p1, z1⟩ := I.list hH
  obtain ⟨⟨cls, d, data, sl⟩, ho, hcl, n, hd⟩ := p1.isList
  simp only at hcl hd
  subst hcl hd
  have l1 := r.length
  have hsz : its.toArray.size * k.toNat ≤ 2 ^ 24 := by rw [List.size_toArray, ← l1]; exact hz
  refine wpAny_binaryOp_repeat_ref (T := "list") (U := "int") (by decide) ⟨_, ho, rfl⟩ (fun s' => typeIs_int s' k t) noFill_list_mul F.fills_int_mul F.slot_int_rmul repeat_list F.slot_int_index.lookup
    (call_meets F.slot_int_rmul (typeIs_int s k t) F.entry_int_rmul (F.args_int_rmul_2 _ _) (lm_int_rmul_list_any k t l its.toArray n d sl)
      ⟨ho, rfl, ⟨_, ho, rfl⟩, call_meets F.slot_list_mul ⟨_, ho, rfl⟩ F.entry_list_mul (F.args_list_mul_2 _ _)
        (lm_list_mul_any l its.toArray n d sl k t (by simp [Builtin.List.listFitsIndex]; omega) (by omega) (by simp [Builtin.List.listTooLong, sizeLine]; omega))
        ⟨ho, ?_⟩⟩)
  rw [listMul_foldl_if]
  exact ⟨.ref _, _, I.lnew (t' := s.toks) (r.rep k.toNat) (by rw [len_rep, Nat.mul_comm]; exact hz), rfl, q _ I.fresh⟩
end
noncomputable def pAdd : P2 := fun E s1 s2 => (look E s1).bind fun d1 => (look E s2).bind fun d2 => match d1, d2 with
  | .int i, .int j => some (.sh (.int (i + j)), E)
  | .str a, .str b => if a.length + b.length ≤ 1000000 then some (.sh (.str (a ++ b)), E) else none
  | .list a, .list b => if decide (a.length + b.length ≤ 1000000) && (!hot E s1 || flatA a) && (!hot E s2 || flatA b) then some (.ow (a ++ b), E) else none
  | _, _ => none
theorem small {n : Nat} (h : n ≤ 1000000) : n < sizeLine := Nat.lt_of_le_of_lt h (by rw [sizeLine_eq]; decide)
theorem smallE {n : Nat} (h : n ≤ 1000000) : n ≤ sizeLine := Nat.le_of_lt (small h)
section
variable {K : PySem.W.Frag} {B F : Hp} {A : List Addr} {σ : SgT} {H : Hp} {E : List Sl} {xs : List V} {Xs : List Sl} {v : V} {s : Sl} {ds : List PyData}
theorem FrF.items {k : Nat} (h : FrF K B F A σ H E xs Xs) (e : Xs[k]? = some s) (q : PL.look E s = some (.list ds)) (c : (!hot E s || flatA ds) = true) : ∃ a vs, xs[k]? = some (.ref a) ∧ SqL K H a vs ∧ RpA K F vs ds := by
  obtain ⟨v, ev, r, f⟩ := h.look e q
  cases hh : hot E s with
  | false =>
    obtain ⟨a, vs, rfl, h1, h2⟩ := f hh
    exact ⟨a, vs, ev, h1, h2⟩
  | true =>
    rw [hh] at c
    cases r with
    | lst h1 h2 => exact ⟨_, _, ev, h1, h.coldA h2 (by simpa using c)⟩
theorem FrF.res2l {v1 v2 : V} {s1 s2 : Sl} {vs : List V} (h : FrF K B F A σ H E (v2 :: v1 :: xs) (s2 :: s1 :: Xs)) (r : RpA K F vs ds) {p : Addr} (hp : H p = none) : Frm K B σ (upd H p (.lst vs)) E (.ref p :: xs) (.ow ds :: Xs) := by
  obtain ⟨A1, h⟩ := h.pop
  obtain ⟨A2, h⟩ := h.pop
  exact ⟨F, _, h.newl r hp⟩
end
noncomputable abbrev rAddU (K : PySem.W.Frag) : R2 := fun x y H Q => (∃ i j, x = .int i ∧ y = .int j ∧ Q (.int (i + j)) H) ∨ (∃ i j, x = .str i ∧ y = .str j ∧ i.length + j.length ≤ sizeLine ∧ Q (.str (i ++ j)) H) ∨ rCatS K x y H Q
theorem op_addU {X : Cx} : OpR X (binaryOp .Add) (rAddU X.K) := OpR.or op_add (OpR.or op_add_str op_catS)
theorem pAdd_ok {K : PySem.W.Frag} : BinOk K (rAddU K) pAdd := by
  intro B F A σ H E xs Xs v1 v2 s1 s2 res E' Q fr e q
  obtain ⟨d1, e1, e⟩ := Option.bind_eq_some_iff.mp e
  obtain ⟨d2, e2, e⟩ := Option.bind_eq_some_iff.mp e
  have r1 := (fr.look1 e1).1
  have r2 := (fr.look0 e2).1
  split at e
  · cases e; cases r1; cases r2
    exact .inl ⟨_, _, rfl, rfl, q _ _ (fr.res2 ⟨rfl, _, rfl, .int _⟩)⟩
  · split at e
    · rename_i hl
      cases e; cases r1; cases r2
      exact .inr (.inl ⟨_, _, rfl, rfl, smallE hl, q _ _ (fr.res2 ⟨rfl, _, rfl, .str _⟩)⟩)
    · cases e
  · split at e
    · rename_i hc
      cases e
      simp only [Bool.and_eq_true, decide_eq_true_eq] at hc
      obtain ⟨a1, u1, x1, q1, i1⟩ := fr.items (k := 1) rfl e1 hc.1.2
      obtain ⟨a2, u2, x2, q2, i2⟩ := fr.items (k := 0) rfl e2 hc.2
      cases x1; cases x2
      have l1 := i1.len
      have l2 := i2.len
      exact .inr (.inr ⟨_, _, _, _, rfl, rfl, q1, q2, smallE (by omega), fun p hp => q _ _ (fr.res2l (i1.append i2) hp)⟩)
    · cases e
  · cases e
noncomputable def pSub : P2 := sc2 (iOp (fun _ _ => true) fun i j => .int (i - j))
noncomputable def pFdiv : P2 := sc2 (iOp (fun _ j => okDiv j) fun i j => .int (i / j))
noncomputable def pMod : P2 := sc2 (iOp (fun _ j => decide (0 < j)) fun i j => .int (i % j))
noncomputable def pPow : P2 := sc2 (iOp (fun i j => decide (0 ≤ j ∧ j ≤ 1000000 ∧ -(2 ^ 64) < i ∧ i < 2 ^ 64)) fun i j => .int (i ^ j.toNat))
section
variable {X : Cx}
theorem op_subC : OpR X (binaryOp .Sub) (rIC (fun _ _ => true) fun i j => .int (i - j)) := OpR.imp op_sub fun x y H Q ⟨i, j, a, b, _, q⟩ => ⟨i, j, a, b, q⟩
theorem op_fdivC : OpR X (binaryOp .FloorDiv) (rIC (fun _ j => okDiv j) fun i j => .int (i / j)) := opI fun i j _ _ _ _ _ hc q => by
  obtain ⟨h1, h2⟩ := of_decide_eq_true hc
  have h3 : j.natAbs.log2 < 9000 := by
    have : j.natAbs < 2 ^ 200 := by omega
    have := (Nat.log2_lt (n := j.natAbs) (k := 200) (by omega)).mpr this
    omega
  exact floordiv_int (by omega) (by rw [Int.fdiv_eq_ediv_of_nonneg i (by omega)]; exact q) (.inl (PyProof.noPylong_of_log2 h3))
theorem op_modC : OpR X (binaryOp .Mod) (rIC (fun _ j => decide (0 < j)) fun i j => .int (i % j)) := OpR.imp op_mod fun x y H Q ⟨i, j, a, b, c, q⟩ => ⟨i, j, a, b, of_decide_eq_true c, q⟩
theorem cpow_of {i j : Int} (c : 0 ≤ j ∧ j ≤ 1000000 ∧ -(2 ^ 64) < i ∧ i < 2 ^ 64) : CPow i j := ⟨c.1, c.2.1, by omega⟩
theorem op_powC : OpR X (binaryOp .Pow) (rIC (fun i j => decide (0 ≤ j ∧ j ≤ 1000000 ∧ -(2 ^ 64) < i ∧ i < 2 ^ 64)) fun i j => .int (i ^ j.toNat)) := OpR.imp op_pow fun x y H Q ⟨i, j, a, b, c, q⟩ => ⟨i, j, a, b, cpow_of (of_decide_eq_true c), q⟩
end
noncomputable def pMul : P2 := fun E s1 s2 => (look E s1).bind fun d1 => (look E s2).bind fun d2 => match d1, d2 with
  | .int i, .int j => if okMul i j then some (.sh (.int (i * j)), E) else none
  | .list a, .int k => if decide (a.length * k.toNat ≤ 1000000 ∧ -1000000 ≤ k ∧ k ≤ 1000000) && (!hot E s1 || flatA a) then some (.ow (List.replicate k.toNat a).flatten, E) else none
  | _, _ => none
noncomputable abbrev rMulU (K : PySem.W.Frag) : R2 := fun x y H Q => rIC okMul (fun i j => .int (i * j)) x y H Q ∨ rRepS K x y H Q
theorem op_mulU {X : Cx} : OpR X (binaryOp .Mult) (rMulU X.K) := OpR.or (opI fun _ _ _ _ _ _ _ hc q => mul_int q (okMul_ok hc)) op_repS
theorem pMul_ok {K : PySem.W.Frag} : BinOk K (rMulU K) pMul := by
  intro B F A σ H E xs Xs v1 v2 s1 s2 res E' Q fr e q
  obtain ⟨d1, e1, e⟩ := Option.bind_eq_some_iff.mp e
  obtain ⟨d2, e2, e⟩ := Option.bind_eq_some_iff.mp e
  have r1 := (fr.look1 e1).1
  have r2 := (fr.look0 e2).1
  split at e
  · split at e
    · rename_i hm
      cases e; cases r1; cases r2
      exact .inl ⟨_, _, rfl, rfl, hm, q _ _ (fr.res2 ⟨rfl, _, rfl, .int _⟩)⟩
    · cases e
  · split at e
    · rename_i hc
      cases e
      simp only [Bool.and_eq_true, decide_eq_true_eq] at hc
      obtain ⟨a1, u1, x1, q1, i1⟩ := fr.items (k := 1) rfl e1 hc.2
      cases x1; cases r2
      have l1 := i1.len
      exact .inr ⟨_, _, _, rfl, rfl, q1, by omega, by omega, smallE (by rw [l1]; exact hc.1.1), fun p hp => q _ _ (fr.res2l (i1.rep _) hp)⟩
    · cases e
  · cases e
section
variable {X : Cx} {a b : Expr} {m1 m2 : Bool} {f g : PEv} {pos : Pos}
theorem xe_add (ha : EX X a m1 f) (hb : EX X b m2 g) : EX X (.BinOp a .Add b pos) (m1 || m2) (pBin pAdd m2 f g) := xe_op op_addU pAdd_ok ha hb
theorem xe_sub (ha : EX X a m1 f) (hb : EX X b m2 g) : EX X (.BinOp a .Sub b pos) (m1 || m2) (pBin pSub m2 f g) := xe_op op_subC (iOp_ok fun _ _ => rfl) ha hb
theorem xe_mul (ha : EX X a m1 f) (hb : EX X b m2 g) : EX X (.BinOp a .Mult b pos) (m1 || m2) (pBin pMul m2 f g) := xe_op op_mulU pMul_ok ha hb
theorem xe_fdiv (ha : EX X a m1 f) (hb : EX X b m2 g) : EX X (.BinOp a .FloorDiv b pos) (m1 || m2) (pBin pFdiv m2 f g) := xe_op op_fdivC (iOp_ok fun _ _ => rfl) ha hb
theorem xe_mod (ha : EX X a m1 f) (hb : EX X b m2 g) : EX X (.BinOp a .Mod b pos) (m1 || m2) (pBin pMod m2 f g) := xe_op op_modC (iOp_ok fun _ _ => rfl) ha hb
theorem xe_pow (ha : EX X a m1 f) (hb : EX X b m2 g) : EX X (.BinOp a .Pow b pos) (m1 || m2) (pBin pPow m2 f g) := xe_op op_powC (iOp_ok fun _ _ => rfl) ha hb
end
noncomputable def UnOk (K : PySem.W.Frag) (r : V → Hp → VK → Prop) (op : PyData → Option PyData) : Prop := ∀ (d1 d : PyData) (v1 : V) (H : Hp) (Q : VK), op d1 = some d → Rp K H v1 d1 → ∃ v, ofD d = some v ∧ (Q v H → r v1 H Q)
noncomputable def pUn (op : PyData → Option PyData) (f : PEv) : PEv := fun E => (f E).bind fun a => (look a.2 a.1).bind fun d1 => (op d1).map fun d => (.sh d, a.2)
theorem rd_un {K : PySem.W.Frag} {r : V → Hp → VK → Prop} {op : PyData → Option PyData} (hp : UnOk K r op) {m : Bool} {f : PEv} {σ : SgT} {H : Hp} {Q : VK} (h : rd K m (pUn op f) σ H Q) : rd K m f σ H (fun x H1 => r x H1 Q) := by
  obtain ⟨B, E, xs, Xs, res, E', fr, c, e, q⟩ := h
  obtain ⟨⟨s1, E1⟩, e1, e⟩ := Option.bind_eq_some_iff.mp e
  obtain ⟨d1, e2, e⟩ := Option.bind_eq_some_iff.mp e
  obtain ⟨d, e3, e⟩ := Option.map_eq_some_iff.mp e
  cases e
  refine ⟨B, E, xs, Xs, s1, E1, fr, c, e1, fun v1 H1 ⟨F, A, fr1⟩ => ?_⟩
  obtain ⟨v, hv, k⟩ := hp d1 d v1 H1 Q e3 (fr1.look0 e2).1
  obtain ⟨A', fr2⟩ := fr1.pop
  exact k (q v H1 ⟨F, A', fr2.push ⟨rfl, v, rfl, ofD_rp hv⟩⟩)
noncomputable def dNeg : PyData → Option PyData
  | .int i => some (.int (-i))
  | _ => none
section
variable {X : Cx} {a b c : Expr} {m1 m2 m3 : Bool} {f g h : PEv} {pos : Pos}
theorem xe_neg (ha : EX X a m1 f) : EX X (.UnaryOp .USub a pos) m1 (pUn dNeg f) := pe_imp (pe_un un_neg ha) fun σ H Q h => rd_un (r := rU fun i => .int (-i)) (fun d1 d v1 H Q e r => by
  cases d1 <;> simp [dNeg] at e
  cases e; cases r
  exact ⟨_, rfl, fun q => ⟨_, rfl, q⟩⟩) h
end
noncomputable def dEq (d1 d2 : PyData) : Option Bool := match d1, d2 with
  | .int i, .int j => some (decide (i = j))
  | .str a, .str b => some (decide (a = b))
  | .bool a, .bool b => some (decide (a = b))
  | .none, .none => some true
  | .none, .str _ => some false
  | .str _, .none => some false
  | d1, d2 => if SeqAt.shaped d1 && SeqAt.shaped d2 then some (PyData.eqv d1 d2) else none
noncomputable def pEq : P2 := sc2 fun d1 d2 => (dEq d1 d2).map fun b => .bool b
noncomputable def pNe : P2 := sc2 fun d1 d2 => (dEq d1 d2).map fun b => .bool (!b)
noncomputable abbrev rEqU (K : PySem.W.Frag) : R2 := fun x y H Q => rEq x y H Q ∨ rEqD K x y H Q
noncomputable abbrev rNeU (K : PySem.W.Frag) : R2 := fun x y H Q => rNe x y H Q ∨ rNeD K x y H Q
theorem dEq_ok {K : PySem.W.Frag} {H : Hp} {v1 v2 : V} {d1 d2 : PyData} {b : Bool} (e : dEq d1 d2 = some b) (r1 : Rp K H v1 d1) (r2 : Rp K H v2 d2) :
    (scal v1 v2 = true ∧ decide (v1 = v2) = b) ∨ (DOf K H v1 d1 ∧ DOf K H v2 d2 ∧ SeqAt.shaped d1 = true ∧ SeqAt.shaped d2 = true ∧ PyData.eqv d1 d2 = b) := by
  unfold dEq at e
  split at e
  · cases e; cases r1; cases r2; exact .inl ⟨rfl, by simp⟩
  · cases e; cases r1; cases r2; exact .inl ⟨rfl, by simp⟩
  · cases e; cases r1; cases r2; exact .inl ⟨rfl, by simp⟩
  · cases e; cases r1; cases r2; exact .inl ⟨rfl, rfl⟩
  · cases e; cases r1; cases r2; exact .inl ⟨rfl, rfl⟩
  · cases e; cases r1; cases r2; exact .inl ⟨rfl, rfl⟩
  · split at e
    · rename_i hs
      cases e
      simp only [Bool.and_eq_true] at hs
      exact .inr ⟨r1.dof hs.1, r2.dof hs.2, hs.1, hs.2, rfl⟩
    · cases e
theorem pEq_ok {K : PySem.W.Frag} : BinOk K (rEqU K) pEq := sc2_ok fun d1 d2 d v1 v2 H Q e r1 r2 => by
  obtain ⟨b, e', rfl⟩ := Option.map_eq_some_iff.mp e
  refine ⟨_, rfl, fun q => ?_⟩
  rcases dEq_ok e' r1 r2 with ⟨a, rfl⟩ | ⟨a1, a2, a3, a4, rfl⟩
  · exact .inl ⟨a, q⟩
  · exact .inr ⟨_, _, a1, a2, a3, a4, q⟩
theorem pNe_ok {K : PySem.W.Frag} : BinOk K (rNeU K) pNe := sc2_ok fun d1 d2 d v1 v2 H Q e r1 r2 => by
  obtain ⟨b, e', rfl⟩ := Option.map_eq_some_iff.mp e
  refine ⟨_, rfl, fun q => ?_⟩
  rcases dEq_ok e' r1 r2 with ⟨a, rfl⟩ | ⟨a1, a2, a3, a4, rfl⟩
  · exact .inl ⟨a, q⟩
  · exact .inr ⟨_, _, a1, a2, a3, a4, q⟩
noncomputable def ScOk (K : PySem.W.Frag) (r : R2) (op : PyData → PyData → Option PyData) : Prop := ∀ (d1 d2 d : PyData) (v1 v2 : V) (H : Hp) (Q : VK), op d1 d2 = some d → Rp K H v1 d1 → Rp K H v2 d2 → ∃ v, ofD d = some v ∧ (Q v H → r v1 v2 H Q)
noncomputable def pChain (op op' : PyData → PyData → Option PyData) (m2 m3 : Bool) (f g h : PEv) : PEv := fun E => (f E).bind fun a => if (m2 || m3) && a.1.isBr then none else (g a.2).bind fun b => if m3 && b.1.isBr then none else
  (look b.2 a.1).bind fun d1 => (look b.2 b.1).bind fun d2 => match op d1 d2 with
    | some (.bool true) => (h b.2).bind fun c => (look c.2 b.1).bind fun d2 => (look c.2 c.1).bind fun d3 => (op' d2 d3).map fun d => (.sh d, c.2)
    | some (.bool false) => some (.sh (.bool false), b.2)
    | _ => none
section
variable {X : Cx} {a b c : Expr} {m1 m2 m3 : Bool} {f g h : PEv} {pos : Pos}
theorem xe_eq (hu : X.A.units + 64 < cLine) (ha : EX X a m1 f) (hb : EX X b m2 g) : EX X (.Compare a [.Eq] [b] pos) (m1 || m2) (pBin pEq m2 f g) := xe_cmp (OpR.or op_eq (op_eqD hu)) pEq_ok ha hb (nomark _)
theorem xt_eq (hu : X.A.units + 64 < cLine) (ha : EX X a m1 f) (hb : EX X b m2 g) : TX X (.Compare a [.Eq] [b] pos) (m1 || m2) (isB (pBin pEq m2 f g)) := xt_cmp (OpR.or op_eq (op_eqD hu)) pEq_ok ha hb (nomark _)
theorem xt_ne (hu : X.A.units + 64 < cLine) (ha : EX X a m1 f) (hb : EX X b m2 g) : TX X (.Compare a [.NotEq] [b] pos) (m1 || m2) (isB (pBin pNe m2 f g)) := xt_cmp (OpR.or op_ne (op_neD hu)) pNe_ok ha hb (nomark _)
theorem rd_chain {K : PySem.W.Frag} {r r' : R2} {op op' : PyData → PyData → Option PyData} (k : ScOk K r op) (k' : ScOk K r' op') {σ : SgT} {H : Hp} {Q : VK} (z : rd K (m1 || (m2 || m3)) (pChain op op' m2 m3 f g h) σ H Q) : tChain r r' (rd K m1 f) (rd K m2 g) (rd K m3 h) σ H Q := by
  obtain ⟨B, E, xs, Xs, res, E', fr, cl, e, q⟩ := z
  obtain ⟨⟨s1, E1⟩, e1, e⟩ := Option.bind_eq_some_iff.mp e
  by_cases hb : ((m2 || m3) && s1.isBr) = true
  · rw [if_pos hb] at e; cases e
  rw [if_neg hb] at e
  obtain ⟨⟨s2, E2⟩, e2, e⟩ := Option.bind_eq_some_iff.mp e
  by_cases hb2 : (m3 && s2.isBr) = true
  · rw [if_pos hb2] at e; cases e
  rw [if_neg hb2] at e
  obtain ⟨d1, l1, e⟩ := Option.bind_eq_some_iff.mp e
  obtain ⟨d2, l2, e⟩ := Option.bind_eq_some_iff.mp e
  have n1 : (m2 || m3) = true → s1.isBr = false := fun z => by
    cases hs : s1.isBr with
    | false => rfl
    | true => exact absurd (by rw [z, hs]; rfl) hb
  have n2 : m3 = true → s2.isBr = false := fun z => by
    cases hs : s2.isBr with
    | false => rfl
    | true => exact absurd (by rw [z, hs]; rfl) hb2
  refine ⟨B, E, xs, Xs, s1, E1, fr, fun z => cl (by simp [z]), e1, fun v1 H1 fr1 => ?_⟩
  refine ⟨B, E1, v1 :: xs, s1 :: Xs, s2, E2, fr1, fun z => Calm.cons (cl (by simp [z])) (n1 (by simp [z])), e2, fun v2 H2 ⟨F, A, fr2⟩ => ?_⟩
  cases ho : op d1 d2 with
  | none => rw [ho] at e; cases e
  | some d =>
    rw [ho] at e
    obtain ⟨v, hv, kk⟩ := k d1 d2 d v1 v2 H2 (fun z H3 => ∃ k, z = .bl k ∧ (if k = true then rd K m3 h σ H3 fun w' H4 => r' v2 w' H4 Q else Q (.bl false) H3)) ho (fr2.look1 l1).1 (fr2.look0 l2).1
    cases d with
    | bool t =>
      cases hv
      refine kk ⟨t, rfl, ?_⟩
      cases t with
      | true =>
        rw [if_pos rfl]
        obtain ⟨⟨s3, E3⟩, e3, e⟩ := Option.bind_eq_some_iff.mp e
        obtain ⟨d2', l2', e⟩ := Option.bind_eq_some_iff.mp e
        obtain ⟨d3, l3, e⟩ := Option.bind_eq_some_iff.mp e
        obtain ⟨d, ho', e⟩ := Option.map_eq_some_iff.mp e
        cases e
        refine ⟨B, E2, v2 :: v1 :: xs, s2 :: s1 :: Xs, s3, E3, ⟨F, A, fr2⟩, fun z => Calm.cons (Calm.cons (cl (by simp [z])) (n1 (by simp [z]))) (n2 z), e3, fun v3 H3 ⟨F3, A3, fr3⟩ => ?_⟩
        obtain ⟨v, hv, kk⟩ := k' d2' d3 d v2 v3 H3 Q ho' (fr3.look1 l2').1 (fr3.look0 l3).1
        obtain ⟨A4, fr4⟩ := fr3.pop
        exact kk (q v H3 (fr4.res2 ⟨rfl, v, rfl, ofD_rp hv⟩))
      | false =>
        rw [if_neg (by decide)]
        cases e
        exact q _ _ (fr2.res2 ⟨rfl, _, rfl, .bl _⟩)
    | none => cases e
    | int i => cases e
    | str x => cases e
    | list xs => cases e
    | tuple xs => cases e
    | dict kvs => cases e
theorem xe_chain {o1 o2 : CmpOp} {r r' : R2} {op op' : PyData → PyData → Option PyData} (ho : OpR X (compareOp o1) r) (ho' : OpR X (compareOp o2) r') (k : ScOk X.K r op) (k' : ScOk X.K r' op') (ha : EX X a m1 f) (hb : EX X b m2 g) (hc : EX X c m3 h)
    (hm : lastMarks [o1, o2] [b, c] = false := by with_unfolding_all rfl) : EX X (.Compare a [o1, o2] [b, c] pos) (m1 || (m2 || m3)) (pChain op op' m2 m3 f g h) := pe_imp (pe_chain ho ho' ha hb hc hm) fun _ _ _ z => rd_chain k k' z
end
end PL
namespace PL
open PySem L2 Nh
noncomputable def pAndV (f g : PEv) : PEv := fun E => (f E).bind fun a => match a.1 with
  | .sh (.bool true) => g a.2
  | .sh (.bool false) => some (.sh (.bool false), a.2)
  | _ => none
noncomputable def tAndP (f g : PTv) : PTv := fun E => (f E).bind fun a => if a.1 then g a.2 else some (false, a.2)
noncomputable def tOrP (f g : PTv) : PTv := fun E => (f E).bind fun a => if a.1 then some (true, a.2) else g a.2
noncomputable def tNotP (f : PTv) : PTv := fun E => (f E).map fun a => (!a.1, a.2)
noncomputable def dTru : PyData → Option Bool
  | .none => some false
  | .bool b => some b
  | .int i => some (i != 0)
  | .str x => if x.length ≤ 1000000 then some ((x.length : Int) != 0) else none
  | .list xs => some (!xs.isEmpty)
  | .tuple xs => some (!xs.isEmpty)
  | .dict _ => none
noncomputable def pTru (f : PEv) : PTv := fun E => (f E).bind fun a => match a.1 with
  | .al i => match a.2[i]? with
    | some (.od kvs) => some (!kvs.isEmpty, a.2)
    | some s => (s.val.bind dTru).map fun b => (b, a.2)
    | none => none
  | s => (s.val.bind dTru).map fun b => (b, a.2)
section
variable {X : Cx} {a b c : Expr} {rest : List Expr} {m1 m2 m3 : Bool} {f g h : PEv} {t u : PTv} {pos : Pos} {K : PySem.W.Frag}
theorem xe_one {op} (h : EX X a m1 f) : EX X (.BoolOp op [a] pos) m1 f := pe_one h
theorem xe_and (ha : EX X a m1 f) (hb : EX X (.BoolOp .And (b :: rest) pos) m2 g) : EX X (.BoolOp .And (a :: b :: rest) pos) (m1 || m2) (pAndV f g) := by
  refine pe_imp (pe_and ha hb) fun σ H Q z => ?_
  obtain ⟨B, E, xs, Xs, res, E', fr, cl, e, q⟩ := z
  obtain ⟨⟨s1, E1⟩, e1, e⟩ := Option.bind_eq_some_iff.mp e
  refine ⟨B, E, xs, Xs, s1, E1, fr, fun z => cl (by simp [z]), e1, fun v1 H1 ⟨F, A, fr1⟩ => ?_⟩
  simp only at e
  split at e
  · obtain ⟨r, _⟩ := fr1.look0 (d := .bool true) rfl
    cases r
    obtain ⟨A', fr2⟩ := fr1.pop
    exact ⟨true, rfl, (if_pos rfl).mpr ⟨B, E1, xs, Xs, res, E', ⟨F, A', fr2⟩, fun z => cl (by simp [z]), e, q⟩⟩
  · cases e
    obtain ⟨r, _⟩ := fr1.look0 (d := .bool false) rfl
    cases r
    exact ⟨false, rfl, (if_neg (by decide)).mpr (q _ _ ⟨F, A, fr1⟩)⟩
  · cases e
theorem xw_and1 (ha : TX X a m1 t) : WX X (.BoolOp .And [a] pos) m1 t := pw_and1 ha
theorem xw_or1 (ha : TX X a m1 t) : WX X (.BoolOp .Or [a] pos) m1 t := pw_or1 ha
theorem xw_and (ha : TX X a m1 t) (hb : WX X (.BoolOp .And (b :: rest) pos) m2 u) : WX X (.BoolOp .And (a :: b :: rest) pos) (m1 || m2) (tAndP t u) := by
  refine pw_imp (pw_and ha hb) fun σ H Q z => ?_
  obtain ⟨B, E, xs, Xs, res, E', fr, cl, e, q⟩ := z
  obtain ⟨⟨b1, E1⟩, e1, e⟩ := Option.bind_eq_some_iff.mp e
  refine ⟨B, E, xs, Xs, b1, E1, fr, fun z => cl (by simp [z]), e1, fun H1 fr1 => ?_⟩
  cases b1 with
  | true => exact (if_pos rfl).mpr ⟨B, E1, xs, Xs, res, E', fr1, fun z => cl (by simp [z]), e, q⟩
  | false => cases e; exact (if_neg (by decide)).mpr (q _ fr1)
theorem xw_or (ha : TX X a m1 t) (hb : WX X (.BoolOp .Or (b :: rest) pos) m2 u) : WX X (.BoolOp .Or (a :: b :: rest) pos) (m1 || m2) (tOrP t u) := by
  refine pw_imp (pw_or ha hb) fun σ H Q z => ?_
  obtain ⟨B, E, xs, Xs, res, E', fr, cl, e, q⟩ := z
  obtain ⟨⟨b1, E1⟩, e1, e⟩ := Option.bind_eq_some_iff.mp e
  refine ⟨B, E, xs, Xs, b1, E1, fr, fun z => cl (by simp [z]), e1, fun H1 fr1 => ?_⟩
  cases b1 with
  | true => cases e; exact (if_pos rfl).mpr (q _ fr1)
  | false => exact (if_neg (by decide)).mpr ⟨B, E1, xs, Xs, res, E', fr1, fun z => cl (by simp [z]), e, q⟩
theorem xt_w (h : WX X a m1 t) : TX X a m1 t := PW.pt h
theorem xt_not (ha : TX X a m1 t) : TX X (.UnaryOp .Not a pos) m1 (tNotP t) := by
  refine pt_imp (pt_not ha) fun σ H Q z => ?_
  obtain ⟨B, E, xs, Xs, res, E', fr, cl, e, q⟩ := z
  obtain ⟨⟨b1, E1⟩, e1, e⟩ := Option.map_eq_some_iff.mp e
  cases e
  exact ⟨B, E, xs, Xs, b1, E1, fr, cl, e1, fun H1 fr1 => q _ fr1⟩
theorem tru_rp {H : Hp} {v : V} {d : PyData} {b : Bool} (r : Rp K H v d) (e : dTru d = some b) : TruV K v H b := by
  cases r with
  | non => cases e; rfl
  | bl b => cases e; rfl
  | int i => cases e; rfl
  | str x =>
    simp only [dTru] at e
    split at e
    · rename_i hl
      cases e
      exact ⟨smallE hl, rfl⟩
    · cases e
  | lst h r => cases e; exact .inl ⟨_, h, by cases r <;> rfl⟩
  | tup h r => cases e; exact .inr (.inl ⟨_, h, by cases r <;> rfl⟩)
  | dct h r => cases e
theorem xt_tru (ha : EX X a m1 f) (he : ∀ whole, isTrue a X.env whole = (do let v ← whole; standAt a.pos; holding [v] (truthy v)) := by exact fun _ => rfl) : TX X a m1 (pTru f) := by
  refine pt_imp (pt_truth ha he) fun σ H Q z => ?_
  obtain ⟨B, E, xs, Xs, res, E', fr, cl, e, q⟩ := z
  obtain ⟨⟨s, E1⟩, e1, e⟩ := Option.bind_eq_some_iff.mp e
  refine ⟨B, E, xs, Xs, s, E1, fr, cl, e1, fun v1 H1 ⟨F, A, fr1⟩ => ?_⟩
  have key : ∀ d, look E1 s = some d → (dTru d).map (fun b => (b, E1)) = some (res, E') → ∃ k, TruV X.K v1 H1 k ∧ Q k H1 := fun d l e => by
    obtain ⟨b, e', z⟩ := Option.map_eq_some_iff.mp e
    cases z
    obtain ⟨A', fr2⟩ := fr1.pop
    exact ⟨_, tru_rp (fr1.look0 l).1 e', q _ ⟨F, A', fr2⟩⟩
  have kv : (s.val.bind dTru).map (fun b => (b, E1)) = some (res, E') → (∀ i, s ≠ .al i) → ∃ k, TruV X.K v1 H1 k ∧ Q k H1 := fun e na => by
    obtain ⟨b, e', z⟩ := Option.map_eq_some_iff.mp e
    obtain ⟨d, e1, e2⟩ := Option.bind_eq_some_iff.mp e'
    refine key d ?_ (by rw [e2]; exact congrArg some z)
    cases s <;> first | exact e1 | exact absurd rfl (na _)
  simp only at e
  split at e
  · rename_i i
    split at e
    · rename_i kvs ei
      cases e
      obtain ⟨v', A1, ev, rfl, w, ew, hw⟩ := fr1.ext (k := 0) rfl
      cases ev; cases ew
      obtain ⟨o, A1, eo, l, us, A2, rfl, _, hl, r⟩ := fr1.var ei
      rw [hw] at eo
      cases eo
      obtain ⟨A', fr2⟩ := fr1.pop
      exact ⟨_, .inr (.inr ⟨_, hl, by cases us <;> cases kvs <;> first | rfl | exact False.elim r⟩), q _ ⟨F, A', fr2⟩⟩
    · rename_i s' _ ei
      obtain ⟨b, e', z⟩ := Option.map_eq_some_iff.mp e
      obtain ⟨d, e1, e2⟩ := Option.bind_eq_some_iff.mp e'
      exact key d (by simp [look, ei, e1]) (by rw [e2]; exact congrArg some z)
    · cases e
  · rename_i na
    exact kv e na
end
theorem xt_chain {X : Cx} {a b c : Expr} {m1 m2 m3 : Bool} {f g h : PEv} {pos : Pos} {o1 o2 : CmpOp} {r r' : R2} {op op' : PyData → PyData → Option PyData} (ho : OpR X (compareOp o1) r) (ho' : OpR X (compareOp o2) r') (k : ScOk X.K r op) (k' : ScOk X.K r' op') (ha : EX X a m1 f) (hb : EX X b m2 g) (hc : EX X c m3 h)
    (hm : lastMarks [o1, o2] [b, c] = false := by with_unfolding_all rfl) : TX X (.Compare a [o1, o2] [b, c] pos) (m1 || (m2 || m3)) (isB (pChain op op' m2 m3 f g h)) := pt_imp (pt_chain ho ho' ha hb hc hm) fun _ _ _ z => rd_chain k k' (rt_isB z)
noncomputable def aNil : PAv := fun E => some ([], E)
noncomputable def aCons (m2 : Bool) (f : PEv) (g : PAv) : PAv := fun E => (f E).bind fun a => if m2 && a.1.isBr then none else (g a.2).map fun b => (a.1 :: b.1, b.2)
noncomputable def dNil : PDv := fun E => some ([], E)
noncomputable def dCons (f : PEv) (g : PDv) : PDv := fun E => (f E).bind fun a => (frz a.2 a.1).bind fun b => (g b.2).map fun c => (b.1 :: c.1, c.2)
noncomputable def pTup (f : PDv) : PEv := fun E => (f E).bind fun a => if a.1.length ≤ 1000000 then some (.sh (.tuple a.1), a.2) else none
noncomputable def pLst (f : PDv) : PEv := fun E => (f E).bind fun a => if a.1.length ≤ 1000000 then some (.ow a.1, a.2) else none
section
variable {X : Cx} {e : Expr} {es : List Expr} {m1 m2 : Bool} {f : PEv} {g : PAv} {d : PDv} {pos : Pos} {K : PySem.W.Frag}
theorem xa_nil : AX X [] false aNil := by
  refine pa_imp pa_nil fun σ H Q z => ?_
  obtain ⟨B, E, xs, Xs, res, E', fr, cl, e, q⟩ := z
  cases e
  exact q [] H rfl fr
theorem xa_cons (ha : EX X e m1 f) (hr : AX X es m2 g) (hs : starEach (e :: es) X.env = (false, eval e X.env) :: starEach es X.env := by rfl) : AX X (e :: es) (m1 || m2) (aCons m2 f g) := by
  refine pa_imp (pa_cons ha hr hs) fun σ H Q z => ?_
  obtain ⟨B, E, xs, Xs, res, E', fr, cl, e, q⟩ := z
  obtain ⟨⟨s, E1⟩, e1, e⟩ := Option.bind_eq_some_iff.mp e
  by_cases hb : (m2 && s.isBr) = true
  · rw [if_pos hb] at e; cases e
  rw [if_neg hb] at e
  obtain ⟨⟨rs, E2⟩, e2, e⟩ := Option.map_eq_some_iff.mp e
  cases e
  refine ⟨B, E, xs, Xs, s, E1, fr, fun z => cl (by simp [z]), e1, fun v1 H1 fr1 => ?_⟩
  refine ⟨B, E1, v1 :: xs, s :: Xs, rs, E2, fr1, fun z => Calm.cons (cl (by simp [z])) ?_, e2, fun vs H2 hl fr2 => ?_⟩
  · cases hs : s.isBr with
    | false => rfl
    | true => exact absurd (by simp [z, hs]) hb
  · exact q (v1 :: vs) H2 (by simp [hl]) (by simpa using fr2)
theorem xd_nil : DX X [] false dNil := by
  refine pa_imp pa_nil fun σ H Q z => ?_
  obtain ⟨B, E, xs, Xs, res, E', fr, cl, e, q⟩ := z
  cases e
  exact q [] H rfl fr
theorem xd_cons (ha : EX X e m1 f) (hr : DX X es m2 d) (hs : starEach (e :: es) X.env = (false, eval e X.env) :: starEach es X.env := by rfl) : DX X (e :: es) (m1 || m2) (dCons f d) := by
  refine pa_imp (pa_cons ha hr hs) fun σ H Q z => ?_
  obtain ⟨B, E, xs, Xs, res, E', fr, cl, e, q⟩ := z
  obtain ⟨⟨s, E1⟩, e1, e⟩ := Option.bind_eq_some_iff.mp e
  obtain ⟨⟨d1, E2⟩, e2, e⟩ := Option.bind_eq_some_iff.mp e
  obtain ⟨⟨rs, E3⟩, e3, e⟩ := Option.map_eq_some_iff.mp e
  cases e
  refine ⟨B, E, xs, Xs, s, E1, fr, fun z => cl (by simp [z]), e1, fun v1 H1 ⟨F, A, fr1⟩ => ?_⟩
  obtain ⟨F2, A2, fr2⟩ := fr1.frz0 e2
  refine ⟨B, E2, v1 :: xs, .sh d1 :: Xs, rs, E3, ⟨F2, A2, fr2⟩, fun z => Calm.cons (cl (by simp [z])) rfl, e3, fun vs H2 hl fr2 => ?_⟩
  exact q (v1 :: vs) H2 (by simp [hl]) (by simpa using fr2)
theorem FrF.shsR {B F : Hp} {σ : SgT} {H : Hp} {E : List Sl} {xs : List V} {Xs : List Sl} : ∀ {us : List V} {es : List PyData} {A : List Addr}, us.length = es.length → FrF K B F A σ H E (us ++ xs) (es.map .sh ++ Xs) → RpA K F us es ∧ ∃ A', FrF K B F A' σ H E xs Xs
  | [], [], A, _, h => ⟨.nil, A, h⟩
  | u :: us, e :: es, A, hl, h => by
    obtain ⟨v, A1, ev, rfl, w, ew, r⟩ := h.ext (k := 0) rfl
    cases ev; cases ew
    obtain ⟨A', h'⟩ := FrF.pop (xs := us ++ xs) (Xs := es.map .sh ++ Xs) h
    obtain ⟨r', q⟩ := FrF.shsR (by simpa using hl) h'
    exact ⟨.cons r r', q⟩
  | [], _ :: _, _, e, _ => by cases e
  | _ :: _, [], _, e, _ => by cases e
theorem FrF.shs {B F : Hp} {σ : SgT} {H : Hp} {E : List Sl} {xs : List V} {Xs : List Sl} {us : List V} {es : List PyData} {A : List Addr} (hl : us.length = es.length) (h : FrF K B F A σ H E (us.reverse ++ xs) (es.reverse.map .sh ++ Xs)) : RpA K F us es ∧ ∃ A', FrF K B F A' σ H E xs Xs := by
  obtain ⟨r, q⟩ := FrF.shsR (by simpa using hl) h
  have := r.rev
  rw [List.reverse_reverse, List.reverse_reverse] at this
  exact ⟨this, q⟩
theorem xe_tup {x1} (h : DX X es m1 d) : EX X (.Tuple es x1 pos) m1 (pTup d) := by
  refine pe_imp (pe_tup h) fun σ H Q z => ?_
  obtain ⟨B, E, xs, Xs, res, E', fr, cl, e, q⟩ := z
  obtain ⟨⟨ds, E1⟩, e1, e⟩ := Option.bind_eq_some_iff.mp e
  simp only at e
  split at e
  · rename_i hl
    cases e
    refine ⟨B, E, xs, Xs, ds, _, fr, cl, e1, fun vs H1 hv ⟨F, A, fr1⟩ => ?_⟩
    obtain ⟨r, A', fr2⟩ := fr1.shs hv
    exact ⟨smallE (by omega), fun p hp => q _ _ ⟨_, _, fr2.newt r hp⟩⟩
  · cases e
theorem xe_lst (h : DX X es m1 d) : EX X (.List es pos) m1 (pLst d) := by
  refine pe_imp (pe_lst h) fun σ H Q z => ?_
  obtain ⟨B, E, xs, Xs, res, E', fr, cl, e, q⟩ := z
  obtain ⟨⟨ds, E1⟩, e1, e⟩ := Option.bind_eq_some_iff.mp e
  simp only at e
  split at e
  · rename_i hl
    cases e
    refine ⟨B, E, xs, Xs, ds, _, fr, cl, e1, fun vs H1 hv ⟨F, A, fr1⟩ => ?_⟩
    obtain ⟨r, A', fr2⟩ := fr1.shs hv
    exact ⟨smallE (by omega), fun p hp => q _ _ ⟨_, _, fr2.newl r hp⟩⟩
  · cases e
end
noncomputable def cutD (ds : List PyData) (lo hi : Option Int) : List PyData := (ds.drop (HT.sIx ds.length 0 lo)).take (HT.sIx ds.length ds.length hi - HT.sIx ds.length 0 lo)
noncomputable def pIx : P2 := fun E s1 s2 => (look E s1).bind fun d1 => (look E s2).bind fun d2 => match d2 with
  | .int i => match d1 with
    | .list ds => (atI ds i).map fun d => (if hot E s1 && !flat d then .br d else .sh d, E)
    | .tuple ds => (atI ds i).map fun d => (if hot E s1 && !flat d then .br d else .sh d, E)
    | .str z => if z.length ≤ 1000000 then (atI z.cps.toList i).map fun c => (.sh (.str ⟨#[c]⟩), E) else none
    | _ => none
  | _ => none
section
variable {K : PySem.W.Frag} {H : Hp}
theorem RpA.atI {vs : List V} {ds : List PyData} {i : Int} {d : PyData} (h : RpA K H vs ds) (e : L2.atI ds i = some d) : ∃ v, L2.atI vs i = some v ∧ Rp K H v d := by
  unfold L2.atI at e ⊢
  obtain ⟨j, e1, e2⟩ := Option.bind_eq_some_iff.mp e
  obtain ⟨v, ev, r⟩ := h.get e2
  exact ⟨v, by rw [h.len, e1]; exact ev, r⟩
theorem FrF.item {B F : Hp} {A : List Addr} {σ : SgT} {E : List Sl} {xs : List V} {Xs : List Sl} {v1 v2 v : V} {s1 s2 : Sl} {d : PyData} (fr : FrF K B F A σ H E (v2 :: v1 :: xs) (s2 :: s1 :: Xs)) (r : Rp K H v d) (f : hot E s1 = false → Rp K F v d) :
    Frm K B σ H E (v :: xs) ((if hot E s1 && !flat d then .br d else .sh d) :: Xs) := by
  by_cases hc : (hot E s1 && !flat d) = true
  · rw [if_pos hc]
    exact fr.res2 ⟨rfl, v, rfl, r⟩
  · rw [if_neg hc]
    refine fr.res2 ⟨rfl, v, rfl, ?_⟩
    cases hh : hot E s1 with
    | false => exact f hh
    | true =>
      rw [hh] at hc
      exact fr.cold r (by simpa using hc)
theorem pIx_ok : BinOk K (rIx K) pIx := by
  intro B F A σ H E xs Xs v1 v2 s1 s2 res E' Q fr e q
  obtain ⟨d1, e1, e⟩ := Option.bind_eq_some_iff.mp e
  obtain ⟨d2, e2, e⟩ := Option.bind_eq_some_iff.mp e
  obtain ⟨r1, f1⟩ := fr.look1 e1
  have r2 := (fr.look0 e2).1
  split at e
  · cases r2
    split at e
    · obtain ⟨d, ed, e⟩ := Option.map_eq_some_iff.mp e
      cases e
      cases hh : hot E s1 with
      | false =>
        obtain ⟨a, vs, rfl, h1, h2⟩ := f1 hh
        obtain ⟨v, ev, rv⟩ := h2.atI ed
        have z := fr.item (rv.same fr.fh) fun _ => rv
        rw [hh] at z q
        exact .inl ⟨_, _, _, v, rfl, rfl, h1, ev, q _ _ z⟩
      | true =>
        cases r1 with
        | lst h1 h2 =>
          obtain ⟨v, ev, rv⟩ := h2.atI ed
          have z := fr.item rv fun h => absurd (hh.symm.trans h) (by decide)
          rw [hh] at z q
          exact .inl ⟨_, _, _, v, rfl, rfl, h1, ev, q _ _ z⟩
    · obtain ⟨d, ed, e⟩ := Option.map_eq_some_iff.mp e
      cases e
      cases hh : hot E s1 with
      | false =>
        have h0 : Rp K F v1 _ := f1 hh
        cases h0 with
        | tup h1 h2 =>
          obtain ⟨v, ev, rv⟩ := h2.atI ed
          have z := fr.item (rv.same fr.fh) fun _ => rv
          rw [hh] at z q
          exact .inr (.inl ⟨_, _, _, v, rfl, rfl, fr.fh.tup h1, ev, q _ _ z⟩)
      | true =>
        cases r1 with
        | tup h1 h2 =>
          obtain ⟨v, ev, rv⟩ := h2.atI ed
          have z := fr.item rv fun h => absurd (hh.symm.trans h) (by decide)
          rw [hh] at z q
          exact .inr (.inl ⟨_, _, _, v, rfl, rfl, h1, ev, q _ _ z⟩)
    · split at e
      · rename_i hl
        obtain ⟨c, ec, e⟩ := Option.map_eq_some_iff.mp e
        cases e; cases r1
        exact .inr (.inr ⟨_, _, c, rfl, rfl, smallE hl, ec, q _ _ (fr.res2 ⟨rfl, _, rfl, .str _⟩)⟩)
      · cases e
    · cases e
  · cases e
end
end PL
namespace L2
open PySem PySem.Spec PyProof.Rows
section
variable {κ : Type} [DecidableEq κ]
noncomputable def valV (kvs : List (κ × V)) (k : κ) : Option V := (kvs.find? fun kv => decide (kv.1 = k)).map (·.2)
noncomputable def putK (kvs : List (κ × V)) (k : κ) (v : V) : List (κ × V) :=
  if (kvs.any fun kv => decide (kv.1 = k)) = true then kvs.map (fun kv => if kv.1 = k then (kv.1, v) else kv) else kvs ++ [(k, v)]
noncomputable def dropK (kvs : List (κ × V)) (k : κ) : List (κ × V) := kvs.filter fun kv => decide (kv.1 ≠ k)
theorem valV_pos {p : κ × V} {r : List (κ × V)} {k : κ} (e : p.1 = k) : valV (p :: r) k = some p.2 := by simp [valV, List.find?_cons, e]
theorem valV_neg {p : κ × V} {r : List (κ × V)} {k : κ} (e : ¬ p.1 = k) : valV (p :: r) k = valV r k := by simp [valV, List.find?_cons, e]
theorem valV_any (k : κ) : ∀ kvs : List (κ × V), (kvs.any fun kv => decide (kv.1 = k)) = (valV kvs k).isSome
  | [] => rfl
  | p :: r => by
    rw [List.any_cons]
    by_cases e : p.1 = k
    · simp only [valV_pos e, decide_eq_true e, Bool.true_or, Option.isSome_some]
    · rw [valV_neg e, decide_eq_false e, Bool.false_or]; exact valV_any k r
theorem RelO.isSome_eq {o : Option V} {u : Option Value} (r : RelO o u) : o.isSome = u.isSome := by
  cases o with
  | none => cases u with
    | none => rfl
    | some _ => exact (show False from r).elim
  | some _ => cases u with
    | none => exact (show False from r).elim
    | some _ => rfl
theorem RelO.getD {o : Option V} {u : Option Value} {d : V} {d' : Value} (r : RelO o u) (rd : RelV d d') : RelV (o.getD d) (u.getD d') := by
  cases o with
  | none => cases u with
    | none => exact rd
    | some _ => exact (show False from r).elim
  | some _ => cases u with
    | none => exact (show False from r).elim
    | some _ => exact r
theorem KV.val {kvs : List (κ × V)} {vs : List (κ × Value)} (r : KV kvs vs) (k : κ) : RelO (valV kvs k) (valueAt vs k) := by
  unfold KV at r
  induction r with
  | nil => exact True.intro
  | @cons p q ps qs h t ih =>
    obtain ⟨h1, h2⟩ := h
    by_cases e : p.1 = k
    · have e' : q.1 = k := h1.symm.trans e
      have b : valueAt (q :: qs) k = some q.2 := by simp [valueAt, List.find?_cons, e']
      rw [valV_pos e, b]; exact h2
    · have e' : ¬ q.1 = k := fun z => e (h1.trans z)
      have b : valueAt (q :: qs) k = valueAt qs k := by simp [valueAt, List.find?_cons, e']
      rw [valV_neg e, b]; exact ih
theorem KV.any {kvs : List (κ × V)} {vs : List (κ × Value)} (r : KV kvs vs) (k : κ) : (kvs.any fun kv => decide (kv.1 = k)) = vs.any fun kv => decide (kv.1 = k) := by
  unfold KV at r
  induction r with
  | nil => rfl
  | cons h t ih => rw [List.any_cons, List.any_cons, ih, h.1]
theorem KV.repl {kvs : List (κ × V)} {vs : List (κ × Value)} (r : KV kvs vs) (k : κ) {y : V} {u : Value} (ry : RelV y u) :
    KV (kvs.map fun kv => if kv.1 = k then (kv.1, y) else kv) (vs.map fun kv => if kv.1 = k then (kv.1, u) else kv) := by
  unfold KV at r ⊢
  induction r with
  | nil => exact .nil
  | @cons p q ps qs h t ih =>
    rw [List.map_cons, List.map_cons]
    refine .cons ?_ ih
    obtain ⟨h1, h2⟩ := h
    by_cases e : p.1 = k
    · rw [if_pos e, if_pos (h1.symm.trans e)]; exact ⟨h1, ry⟩
    · rw [if_neg e, if_neg (fun z => e (h1.trans z))]; exact ⟨h1, h2⟩
theorem KV.put {kvs : List (κ × V)} {vs : List (κ × Value)} (r : KV kvs vs) (k : κ) {y : V} {u : Value} (ry : RelV y u) : KV (putK kvs k y) (stored vs k u) := by
  unfold putK stored
  rw [r.any k]
  by_cases e : (vs.any fun kv => decide (kv.1 = k)) = true
  · rw [if_pos e, if_pos e]; exact r.repl k ry
  · rw [if_neg e, if_neg e]; exact Paired.snoc r ⟨rfl, ry⟩
theorem KV.drop {kvs : List (κ × V)} {vs : List (κ × Value)} (r : KV kvs vs) (k : κ) : KV (dropK kvs k) (without vs k) := by
  unfold KV at r ⊢
  unfold dropK without
  induction r with
  | nil => exact .nil
  | @cons p q ps qs h t ih =>
    obtain ⟨h1, h2⟩ := h
    rw [List.filter_cons, List.filter_cons]
    by_cases e : p.1 = k
    · have a : ¬ decide (p.1 ≠ k) = true := by simp [e]
      have b : ¬ decide (q.1 ≠ k) = true := by simp [h1.symm.trans e]
      rw [if_neg a, if_neg b]; exact ih
    · have e' : ¬ q.1 = k := fun z => e (h1.trans z)
      have a : decide (p.1 ≠ k) = true := by simp [e]
      have b : decide (q.1 ≠ k) = true := by simp [e']
      rw [if_pos a, if_pos b]; exact .cons ⟨h1, h2⟩ ih
theorem KV.keys {kvs : List (κ × V)} {vs : List (κ × Value)} (r : KV kvs vs) : kvs.map (·.1) = vs.map (·.1) := by
  unfold KV at r
  induction r with
  | nil => rfl
  | cons h t ih => rw [List.map_cons, List.map_cons, ih, h.1]
theorem KV.length {kvs : List (κ × V)} {vs : List (κ × Value)} (r : KV kvs vs) : kvs.length = vs.length := Paired.length r
end
noncomputable abbrev KT (H : Hp) : List (List Key × V) → List (List Key × Addr × Value) → Prop := Paired fun p q => p.1 = q.1 ∧ H q.2.1 = some (.tup (p.1.map kV)) ∧ RelV p.2 q.2.2
theorem KT.val {H : Hp} {kvs : List (List Key × V)} {xs : List (List Key × Addr × Value)} (r : KT H kvs xs) (k : List Key) : RelO (valV kvs k) ((atKey xs k).map (·.2)) := by
  induction r with
  | nil => exact True.intro
  | @cons p q ps qs h t ih =>
    obtain ⟨h1, _, h2⟩ := h
    by_cases e : p.1 = k
    · have e' : q.1 = k := h1.symm.trans e
      have b : atKey (q :: qs) k = some q.2 := by simp [atKey, List.find?_cons, e']
      rw [valV_pos e, b]; exact h2
    · have e' : ¬ q.1 = k := fun z => e (h1.trans z)
      have b : atKey (q :: qs) k = atKey qs k := by simp [atKey, List.find?_cons, e']
      rw [valV_neg e, b]; exact ih
theorem KT.repl {H : Hp} {kvs : List (List Key × V)} {xs : List (List Key × Addr × Value)} (r : KT H kvs xs) (k : List Key) {y : V} {u : Value} (ry : RelV y u) :
    KT H (kvs.map fun kv => if kv.1 = k then (kv.1, y) else kv) (xs.map (putAt k u)) := by
  induction r with
  | nil => exact .nil
  | @cons p q ps qs h t ih =>
    rw [List.map_cons, List.map_cons]
    refine .cons ?_ ih
    obtain ⟨h1, h2, h3⟩ := h
    unfold putAt
    by_cases e : p.1 = k
    · rw [if_pos e, if_pos (h1.symm.trans e)]; exact ⟨h1, h2, ry⟩
    · rw [if_neg e, if_neg (fun z => e (h1.trans z))]; exact ⟨h1, h2, h3⟩
theorem KT.put {H : Hp} {kvs : List (List Key × V)} {xs : List (List Key × Addr × Value)} (r : KT H kvs xs) (k : List Key) {b : Addr} {y : V} {u : Value} (hb : H b = some (.tup (k.map kV))) (ry : RelV y u) :
    KT H (putK kvs k y) (storedH xs k b u) := by
  have e : (kvs.any fun kv => decide (kv.1 = k)) = (atKey xs k).isSome := by
    rw [valV_any, (r.val k).isSome_eq, Option.isSome_map]
  unfold putK storedH
  rw [e]
  by_cases q : (atKey xs k).isSome = true
  · rw [if_pos q, if_pos q]; exact r.repl k ry
  · rw [if_neg q, if_neg q]; exact Paired.snoc r ⟨rfl, hb, ry⟩
theorem KT.keeps {H H' : Hp} {kvs : List (List Key × V)} {xs : List (List Key × Addr × Value)} (r : KT H kvs xs) (ht : ∀ b ys, H b = some (.tup ys) → H' b = some (.tup ys)) : KT H' kvs xs :=
  Paired.mapP r fun _ _ z => ⟨z.1, ht _ _ z.2.1, z.2.2⟩
section
variable {P : Program} {w : World} {H : Hp} {h : Heap} {a : Addr}
theorem rd_of {u : HO} (ok : HOk P w H h) (e : Rd H a u) : ObjOk P w H h a u := e.ok ok
theorem dk_rd {kvs : List (Key × V)} (ok : HOk P w H h) (e : Rd H a (.dK kvs)) : kvs.length ≤ sizeLine ∧ (a == sysModules) = false ∧ ∃ vs, KV kvs vs ∧ h.DictOf (mixKind P w) a vs :=
  show ObjOk P w H h a (.dK kvs) from rd_of ok e
end
noncomputable def DGet (H : Hp) (a : Addr) (y : V) (r : Option V) : Prop :=
  (∃ kvs k, Rd H a (.dK kvs) ∧ y = kV k ∧ r = valV kvs k) ∨ ∃ kvs k b, Rd H a (.dT kvs) ∧ y = .ref b ∧ H b = some (.tup (k.map kV)) ∧ r = valV kvs k
noncomputable def DPut (H : Hp) (a : Addr) (y v : V) (H' : Hp) : Prop :=
  (∃ kvs k, H a = some (.dK kvs) ∧ y = kV k ∧ kvs.length < sizeLine ∧ H' = upd H a (.dK (putK kvs k v))) ∨
  ∃ kvs k b, H a = some (.dT kvs) ∧ y = .ref b ∧ H b = some (.tup (k.map kV)) ∧ kvs.length < sizeLine ∧ H' = upd H a (.dT (putK kvs k v))
theorem DGet.k {H : Hp} {a : Addr} {kvs : List (Key × V)} {k : Key} (e : H a = some (.dK kvs)) : DGet H a (kV k) (valV kvs k) := .inl ⟨kvs, k, .inl e, rfl, rfl⟩
theorem DGet.t {H : Hp} {a b : Addr} {kvs : List (List Key × V)} {k : List Key} (e : H a = some (.dT kvs)) (eb : H b = some (.tup (k.map kV))) : DGet H a (.ref b) (valV kvs k) := .inr ⟨kvs, k, b, .inl e, rfl, eb, rfl⟩
theorem DPut.k {H : Hp} {a : Addr} {kvs : List (Key × V)} {k : Key} {v : V} (e : H a = some (.dK kvs)) (hl : kvs.length < sizeLine) : DPut H a (kV k) v (upd H a (.dK (putK kvs k v))) := .inl ⟨kvs, k, e, rfl, hl, rfl⟩
theorem DPut.t {H : Hp} {a b : Addr} {kvs : List (List Key × V)} {k : List Key} {v : V} (e : H a = some (.dT kvs)) (eb : H b = some (.tup (k.map kV))) (hl : kvs.length < sizeLine) :
    DPut H a (.ref b) v (upd H a (.dT (putK kvs k v))) := .inr ⟨kvs, k, b, e, rfl, eb, hl, rfl⟩
section
variable {X : Cx} {pins : List (Addr × Obj)} {σ : St} {H : Hp} {s : Shared} {a : Addr} {y v : V} {u r : Value} {o : Option V} {A : Around} {E : Value → Shared → Prop}
theorem Inv.big (I : Inv X pins σ H s) : sysModules < s.heap.objs.size := by
  have h : mainGlobals < s.heap.objs.size := (I.mod.glob.keeps I.bk).lt
  exact Nat.lt_trans (by decide) h
end
structure M1 (X : Cx) (o : Expr) (m : Str) (apos : Pos) (e : Expr) (cpos : Pos) : Prop where
  base : attributeBase o m X.env (eval o X.env) = eval o X.env
  few : ((backTo cpos (starEach [e] X.env)).all (fun x => !x.1) && (backToKw cpos (keywordEach [] X.env)).all (fun x => x.1.isSome)
    && decide (([e] : List Expr).length + ([] : List Keyword).length + (if ([] : List Keyword).isEmpty then 0 else 1) < 30)) = true
  line : (apos.endLine == cpos.line) = true
  trees : backTo cpos (starEach [e] X.env) = [(false, eval e X.env)]
structure M2 (X : Cx) (o : Expr) (m : Str) (apos : Pos) (e f : Expr) (cpos : Pos) : Prop where
  base : attributeBase o m X.env (eval o X.env) = eval o X.env
  few : ((backTo cpos (starEach [e, f] X.env)).all (fun x => !x.1) && (backToKw cpos (keywordEach [] X.env)).all (fun x => x.1.isSome)
    && decide (([e, f] : List Expr).length + ([] : List Keyword).length + (if ([] : List Keyword).isEmpty then 0 else 1) < 30)) = true
  line : (apos.endLine == cpos.line) = true
  trees : backTo cpos (starEach [e, f] X.env) = [(false, eval e X.env), (false, eval f X.env)]
end L2
namespace PL
open PySem L2 Nh
theorem xe_ix {X : Cx} {a b : Expr} {m1 m2 : Bool} {f g : PEv} {pos : Pos} (ha : EX X a m1 f) (hb : EX X b m2 g) (hs : PlainIx b := by exact fun _ _ => rfl) : EX X (.Subscript a b pos) (m1 || m2) (pBin pIx m2 f g) := pe_imp (pe_ix ix_seq ha hb hs) fun _ _ _ h => rd_bin pIx_ok h
noncomputable abbrev POv := List Sl → Option (Option Int × List Sl)
section
variable {X : Cx} {e : Expr} {lo hi : Option Expr} {m1 m2 m3 : Bool} {f : PEv} {g h : POv} {pos p2 : Pos} {K : PySem.W.Frag}
theorem RpA.cut {F : Hp} {vs : List V} {ds : List PyData} (h : RpA K F vs ds) (lo hi : Option Int) : RpA K F (cutV vs lo hi) (cutD ds lo hi) := by
  unfold cutV cutD
  rw [h.len]
  exact (h.drop _).take _
end
noncomputable def lookA (E : List Sl) : List Sl → Option (List PyData)
  | [] => some []
  | s :: ss => (look E s).bind fun d => (lookA E ss).map fun ds => d :: ds
theorem lookA_iff {E : List Sl} : ∀ {ss : List Sl} {ds : List PyData}, lookA E ss = some ds ↔ Paired (fun s d => look E s = some d) ss ds
  | [], ds => ⟨fun h => by cases h; exact .nil, fun h => by cases h; rfl⟩
  | s :: ss, ds => by
    constructor
    · intro h
      obtain ⟨d, h1, h⟩ := Option.bind_eq_some_iff.mp h
      obtain ⟨es, h2, h⟩ := Option.map_eq_some_iff.mp h
      cases h
      exact .cons h1 (lookA_iff.mp h2)
    · intro h
      cases h with
      | cons h1 h2 => simp [lookA, h1, lookA_iff.mpr h2]
theorem lookA_rev {E : List Sl} {ss : List Sl} {ds : List PyData} (h : lookA E ss = some ds) : lookA E ss.reverse = some ds.reverse := lookA_iff.mpr (pr_reverse (lookA_iff.mp h))
section
variable {X : Cx} {K : PySem.W.Frag} {B F : Hp} {σ : SgT} {H : Hp} {E : List Sl} {xs : List V} {Xs : List Sl}
theorem FrF.looksR : ∀ {us : List V} {ts : List Sl} {es : List PyData} {A : List Addr}, us.length = ts.length → FrF K B F A σ H E (us ++ xs) (ts ++ Xs) → lookA E ts = some es → RpA K H us es ∧ ∃ A', FrF K B F A' σ H E xs Xs
  | [], [], es, A, _, h, e => by cases e; exact ⟨.nil, A, h⟩
  | u :: us, t :: ts, es, A, hl, h, e => by
    obtain ⟨d, h1, e⟩ := Option.bind_eq_some_iff.mp e
    obtain ⟨es', h2, e⟩ := Option.map_eq_some_iff.mp e
    cases e
    have r := (FrF.look0 (xs := us ++ xs) (Xs := ts ++ Xs) h h1).1
    obtain ⟨A', h'⟩ := FrF.pop (xs := us ++ xs) (Xs := ts ++ Xs) h
    obtain ⟨r', q⟩ := FrF.looksR (by simpa using hl) h' h2
    exact ⟨.cons r r', q⟩
  | [], _ :: _, _, _, e, _, _ => by cases e
  | _ :: _, [], _, _, e, _, _ => by cases e
theorem FrF.looks {us : List V} {ts : List Sl} {es : List PyData} {A : List Addr} (hl : us.length = ts.length) (h : FrF K B F A σ H E (us.reverse ++ xs) (ts.reverse ++ Xs)) (e : lookA E ts = some es) : RpA K H us es ∧ ∃ A', FrF K B F A' σ H E xs Xs := by
  obtain ⟨r, q⟩ := FrF.looksR (by simpa using hl) h (lookA_rev e)
  have := r.rev
  rw [List.reverse_reverse, List.reverse_reverse] at this
  exact ⟨this, q⟩
end
noncomputable def CaOk (K : PySem.W.Frag) (r : List V → Hp → VK → Prop) (op : List PyData → Option PyData) : Prop := ∀ (ds : List PyData) (d : PyData) (vs : List V) (H : Hp) (Q : VK), op ds = some d → RpA K H vs ds → ∃ v, ofD d = some v ∧ (Q v H → r vs H Q)
noncomputable def pCaS (op : List PyData → Option PyData) (g : PAv) : PEv := fun E => (g E).bind fun a => (lookA a.2 a.1).bind fun ds => (op ds).map fun d => (.sh d, a.2)
theorem rd_caS {K : PySem.W.Frag} {r : List V → Hp → VK → Prop} {op : List PyData → Option PyData} (hp : CaOk K r op) {m : Bool} {g : PAv} {σ : SgT} {H : Hp} {Q : VK} (h : rd K m (pCaS op g) σ H Q) : tCB r (ra K m g) σ H Q := by
  obtain ⟨B, E, xs, Xs, res, E', fr, cl, e, q⟩ := h
  obtain ⟨⟨rs, E1⟩, e1, e⟩ := Option.bind_eq_some_iff.mp e
  obtain ⟨ds, e2, e⟩ := Option.bind_eq_some_iff.mp e
  obtain ⟨d, e3, e⟩ := Option.map_eq_some_iff.mp e
  cases e
  refine ⟨B, E, xs, Xs, rs, E1, fr, cl, e1, fun vs H1 hl ⟨F, A, fr1⟩ => ?_⟩
  obtain ⟨r1, A', fr2⟩ := fr1.looks hl e2
  obtain ⟨v, hv, k⟩ := hp ds d vs H1 Q e3 r1
  exact k (q v H1 ⟨F, A', fr2.push ⟨rfl, v, rfl, ofD_rp hv⟩⟩)
noncomputable def dLen : List PyData → Option PyData
  | [.list xs] => some (.int xs.length)
  | [.tuple xs] => some (.int xs.length)
  | [.str z] => if z.length ≤ 1000000 then some (.int z.length) else none
  | _ => none
theorem RpA.one {K : PySem.W.Frag} {H : Hp} {vs : List V} {d : PyData} (h : RpA K H vs [d]) : ∃ v, vs = [v] ∧ Rp K H v d := by
  cases h with
  | cons h t => cases t; exact ⟨_, rfl, h⟩
theorem RpA.two {K : PySem.W.Frag} {H : Hp} {vs : List V} {d e : PyData} (h : RpA K H vs [d, e]) : ∃ v u, vs = [v, u] ∧ Rp K H v d ∧ Rp K H u e := by
  cases h with
  | cons h t =>
    obtain ⟨u, rfl, r⟩ := t.one
    exact ⟨_, _, rfl, h, r⟩
section
variable {X : Cx} {e : Expr} {es : List Expr} {m1 : Bool} {g : PAv} {p pos : Pos} {K : PySem.W.Frag}
noncomputable abbrev rLenU (K : PySem.W.Frag) : List V → Hp → VK → Prop := fun xs H Q => (∃ p ys, xs = [.ref p] ∧ (SqL K H p ys ∨ SqT K H p ys) ∧ Q (.int ys.length) H) ∨ (∃ z, xs = [.str z] ∧ z.length ≤ sizeLine ∧ Q (.int z.length) H)
theorem dLen_ok : CaOk K (rLenU K) dLen := fun ds d vs H Q e r => by
  unfold dLen at e
  split at e
  · cases e
    obtain ⟨v, rfl, r'⟩ := r.one
    cases r' with
    | lst h1 h2 => exact ⟨_, rfl, fun q => .inl ⟨_, _, rfl, .inl h1, by rw [h2.len]; exact q⟩⟩
  · cases e
    obtain ⟨v, rfl, r'⟩ := r.one
    cases r' with
    | tup h1 h2 => exact ⟨_, rfl, fun q => .inl ⟨_, _, rfl, .inr h1, by rw [h2.len]; exact q⟩⟩
  · split at e
    · rename_i hl
      cases e
      obtain ⟨v, rfl, r'⟩ := r.one
      cases r'
      exact ⟨_, rfl, fun q => .inr ⟨_, rfl, smallE hl, q⟩⟩
    · cases e
  · cases e
theorem xe_callS {x : Str} {id : String} {r : List V → Hp → VK → Prop} {op : List PyData → Option PyData} (hp : CaOk X.K r op) (hc : CallR X (.builtin id) r) (hg : Gl X x) (hm : X.mg x = none) (hv : bootBuiltins x = some (.builtin id)) (ha : AX X (e :: es) m1 g) (hn : x ≠ "__name__" := by decide) (hdb : (x == ("__debug__" : Str)) = false := by decide)
    (he : starEach (e :: es) X.env = (false, eval e X.env) :: starEach es X.env := by rfl) (hpl : (backTo pos (starEach es X.env)).any (·.1) = false := by rfl) : EX X (.Call (.Name x p) (e :: es) [] pos) m1 (pCaS op g) :=
  pe_imp (pe_callB hc hg hm hv ha hn hdb he hpl) fun _ _ _ h => rd_caS hp h
theorem xe_len (hg : Gl X "len") (hm : X.mg "len" = none) (ha : AX X [e] m1 g) (he : starEach [e] X.env = [(false, eval e X.env)] := by rfl) : EX X (.Call (.Name "len" p) [e] [] pos) m1 (pCaS dLen g) := xe_callS dLen_ok (CallR.or call_len_seq call_len_str) hg hm PySem.boot_len ha (by decide) (by decide) he rfl
end
noncomputable def pLstOf (g : PEv) : PEv := fun E => (g E).bind fun a => match look a.2 a.1 with
  | some (.list ds) => if !hot a.2 a.1 || flatA ds then some (.ow ds, a.2) else none
  | some (.tuple ds) => if !hot a.2 a.1 || flatA ds then some (.ow ds, a.2) else none
  | _ => none
section
variable {X : Cx} {e : Expr} {m1 : Bool} {f : PEv} {p pos : Pos} {K : PySem.W.Frag}
theorem xe_list (hg : Gl X "list") (hm : X.mg "list" = none) (ha : EX X e m1 f) (he : starEach [e] X.env = [(false, eval e X.env)] := by rfl) : EX X (.Call (.Name "list" p) [e] [] pos) m1 (pLstOf f) := by
  refine pe_imp (pe_callTy call_list_of hg hm PyProof.Rows.boot_list (pa_cons ha pa_nil he) (by decide) (by decide) he rfl) fun σ H Q z => ?_
  obtain ⟨B, E, xs, Xs, res, E', fr, cl, e, q⟩ := z
  obtain ⟨⟨s, E1⟩, e1, e⟩ := Option.bind_eq_some_iff.mp e
  refine ⟨B, E, xs, Xs, s, E1, fr, cl, e1, fun v1 H1 ⟨F, A, fr1⟩ => ?_⟩
  obtain ⟨A', fr2⟩ := fr1.pop
  simp only at e
  split at e
  · rename_i ds ld
    split at e
    · rename_i hc
      cases e
      obtain ⟨a, vs, ev, h1, h2⟩ := fr1.items (k := 0) rfl ld hc
      cases ev
      exact ⟨a, vs, rfl, .inl h1, fun l hl => q _ _ ⟨F, _, fr2.newl h2 hl⟩⟩
    · cases e
  · rename_i ds ld
    split at e
    · rename_i hc
      cases e
      obtain ⟨r, f0⟩ := fr1.look0 ld
      cases hh : hot E' s with
      | false =>
        have h0 : Rp X.K F v1 _ := f0 hh
        cases h0 with
        | tup h1 h2 => exact ⟨_, _, rfl, .inr (fr1.fh.tup h1), fun l hl => q _ _ ⟨F, _, fr2.newl h2 hl⟩⟩
      | true =>
        rw [hh] at hc
        cases r with
        | tup h1 h2 => exact ⟨_, _, rfl, .inr h1, fun l hl => q _ _ ⟨F, _, fr2.newl (fr1.coldA h2 (by simpa using hc)) hl⟩⟩
    · cases e
  · cases e
end
inductive Ty where
  | non | bool | int | str | list | tuple | dict
noncomputable def Ty.name : Ty → String
  | .non => "NoneType"
  | .bool => "bool"
  | .int => "int"
  | .str => "str"
  | .list => "list"
  | .tuple => "tuple"
  | .dict => "dict"
noncomputable def Ty.is : Ty → Ty → Bool
  | .non, .non => true
  | .bool, .bool => true
  | .bool, .int => true
  | .int, .int => true
  | .str, .str => true
  | .list, .list => true
  | .tuple, .tuple => true
  | .dict, .dict => true
  | _, _ => false
noncomputable def tyD : PyData → Ty
  | .none => .non
  | .bool _ => .bool
  | .int _ => .int
  | .str _ => .str
  | .list _ => .list
  | .tuple _ => .tuple
  | .dict _ => .dict
theorem kit_is (K : PySem.W.Frag) (t n : Ty) : PySem.W.kitOne K (.type t.name) (.type n.name) = some (t.is n) := by cases t <;> cases n <;> rfl
noncomputable def dIsi (n : Ty) (d : PyData) : Option PyData := some (.bool ((tyD d).is n))
section
variable {X : Cx} {e : Expr} {m1 : Bool} {f : PEv} {p p2 pos : Pos}
theorem isinst_rp {pins : List (Addr × Obj)} {s : Shared} {σ : SgT} {H : Hp} {x : V} {u : Value} {d : PyData} {n : Ty} {A : Around} {E : Value → Shared → Prop} {Q : Value → Shared → Prop} (I : Inv X pins σ H s) (rx : RelV x u) (rp : Rp X.K H x d) (h : ∀ tk, Q (.bool ((tyD d).is n)) { s with toks := tk }) :
    wpAny (model X.prog X.w) A (call (.builtin "isinstance") [u, .type n.name]) Q E s := by
  have e := kit_is X.K (tyD d) n
  cases rp with
  | non => exact isinst_ok I rx .non e h
  | bl b => exact isinst_ok I rx (.bl b) e h
  | int i => exact isinst_ok I rx (.int i) e h
  | str y => exact isinst_ok I rx (.str y) e h
  | lst h1 _ =>
    cases rx
    obtain ⟨its, rv, ⟨o, n', e1, c, _, d⟩, _⟩ := I.list h1
    exact PySem.W.kia_one PySem.W.kitx_list I.kIn ⟨_, e1, c⟩ e (fun z => nomatch z) h
  | tup h1 _ =>
    cases rx
    obtain ⟨its, rv, ⟨o, e1, c, n', d⟩, _⟩ := I.tuple h1
    exact PySem.W.kia_one PySem.W.kitx_tuple I.kIn ⟨_, e1, c⟩ e (fun z => nomatch z) h
  | dct h1 _ =>
    cases rx
    obtain ⟨_, _, vs, _, ob, es, ep, e1, c, _⟩ := dk_rd I.hok h1
    exact PySem.W.kia_one PySem.W.kitx_dict I.kIn ⟨_, e1, c.1⟩ e (fun z => nomatch z) h
theorem call_isiD (n : Ty) : CallR X (.builtin "isinstance") (fun xs H Q => ∃ x d, xs = [x, .ty n.name] ∧ Rp X.K H x d ∧ Q (.bl ((tyD d).is n)) H) := by
  intro pins s σ H xs us Q I r h
  obtain ⟨x, d, rfl, rp, q⟩ := h
  obtain ⟨u, w', rfl, ru, rw'⟩ := r.two
  cases (show w' = Value.type n.name from rw')
  exact isinst_rp I ru rp fun tk => ⟨.bl _, H, I.tok _, rfl, q⟩
theorem xe_isi (n : Ty) (hg : Gl X "isinstance") (hm : X.mg "isinstance" = none) (ha : EX X e m1 f) {x : Str} (hgx : Gl X x) (hmx : X.mg x = none) (hbx : bootBuiltins x = some (.type n.name)) (hnx : x ≠ "__name__" := by decide) (hdx : (x == ("__debug__" : Str)) = false := by decide)
    (he : starEach [e, .Name x p2] X.env = (false, eval e X.env) :: starEach [.Name x p2] X.env := by rfl) (he2 : starEach [.Name x p2] X.env = [(false, eval (.Name x p2) X.env)] := by rfl) (hpl : (backTo pos (starEach [.Name x p2] X.env)).any (·.1) = false := by rfl) :
    EX X (.Call (.Name "isinstance" p) [e, .Name x p2] [] pos) m1 (pUn (dIsi n) f) := by
  have h2 : PE X (.Name x p2) (tC (.ty n.name)) := pe_bltn (v := .ty n.name) hgx hmx hbx rfl hnx hdx
  refine pe_imp (pe_callB (call_isiD n) hg hm PyProof.Rows.boot_isinstance (pa_cons ha (pa_cons h2 pa_nil he2) he) (by decide) (by decide) he hpl) fun σ H Q z => ?_
  obtain ⟨B, E, xs, Xs, res, E', fr, cl, e, q⟩ := z
  obtain ⟨⟨s, E1⟩, e1, e⟩ := Option.bind_eq_some_iff.mp e
  obtain ⟨d1, e2, e⟩ := Option.bind_eq_some_iff.mp e
  cases e
  refine ⟨B, E, xs, Xs, s, E1, fr, cl, e1, fun v1 H1 ⟨F, A, fr1⟩ => ?_⟩
  obtain ⟨A', fr2⟩ := fr1.pop
  exact ⟨v1, d1, rfl, (fr1.look0 e2).1, q _ _ ⟨F, A', fr2.push ⟨rfl, _, rfl, .bl _⟩⟩⟩
end
end PL
namespace PL
open PySem L2 Nh
noncomputable def ResOk (K : PySem.W.Frag) (H H' : Hp) (v : V) : Sl → Prop
  | .sh d => Rp K (tups H') v d
  | .ow ds => ∃ l vs, v = .ref l ∧ H l = none ∧ H' l = some (.lst vs) ∧ RpA K (tups H') vs ds
  | .tx ps => ∃ t vs A, v = .ref t ∧ tups H' t = some (.tup vs) ∧ A.Nodup ∧ (∀ a ∈ A, H a = none) ∧ PtsOk K (tups H') H' vs ps A
  | .od kvs => ∃ l us A, v = .ref l ∧ (l :: A).Nodup ∧ (∀ a ∈ l :: A, H a = none) ∧ H' l = some (.dK us) ∧ DlOk K (tups H') H' us kvs A
  | .br d => Rp K H' v d
  | _ => False
noncomputable def spP (K : PySem.W.Frag) (c : List PyData → Option Sl) : Sp := fun vs H Q _ => ∃ ds r, c ds = some r ∧ RpA K H vs ds ∧ ∀ v H', Same H H' → ResOk K H H' v r → Q v H'
section
variable {K : PySem.W.Frag} {B F : Hp} {A N : List Addr} {σ : SgT} {H H' : Hp} {E : List Sl} {xs : List V} {Xs : List Sl} {v : V} {s : Sl}
theorem FrF.growN (h : FrF K B F A σ H E xs Xs) (g : Same H H') (hN : ∀ a ∈ N, H a = none ∧ ((∃ us, H' a = some (.lst us)) ∨ ∃ us, H' a = some (.dK us))) : FrF K B (fun b => if b ∈ N then none else if b ∈ A then none else H' b) A σ H' E xs Xs := by
  have h1 := h.grow g
  have nF : ∀ b o, F b = some o → b ∉ N := fun b o e hb => by
    have := h.fh.free (hN b hb).1
    rw [this] at e; cases e
  have FF : Same F (fun b => if b ∈ N then none else if b ∈ A then none else H' b) := fun b o e => by
    have nA : b ∉ A := fun hb => by rw [h.fr b hb] at e; cases e
    show (if b ∈ N then none else if b ∈ A then none else H' b) = some o
    rw [if_neg (nF b o e), if_neg nA]
    exact g _ _ (h.fh _ _ e)
  have hA : ∀ b ∈ A, H' b = H b := fun b hb => by
    rcases h.mutA b hb with ⟨_, z⟩ | ⟨_, z⟩ <;> rw [z, g _ _ z]
  refine ⟨h.bf.trans FF, fun b o e => ?_, fun b o e => ?_, h.sl.mono fun o s C _ hC q => q.stay FF (fun b hb => hA b (hC b hb)) fun _ => g, h.nd, fun a ha => ?_, h.len, h.pl⟩
  · by_cases hb : b ∈ N
    · rw [if_pos hb] at e; cases e
    · rw [if_neg hb] at e; exact h1.fh _ _ e
  · show (if b ∈ N then none else if b ∈ A then none else H' b) = some o
    by_cases hb : b ∈ N
    · obtain ⟨e1, e2⟩ := Option.filter_eq_some_iff.mp e
      rcases (hN b hb).2 with ⟨us, z⟩ | ⟨us, z⟩ <;> rw [z] at e1 <;> cases e1 <;> cases e2
    · rw [if_neg hb]; exact h1.tf _ _ e
  · show (if a ∈ N then none else if a ∈ A then none else H' a) = none
    by_cases hb : a ∈ N
    · rw [if_pos hb]
    · rw [if_neg hb, if_pos ha]
theorem FrF.pushR (h : FrF K B F A σ H E xs Xs) (q : SlOk K F H σ (some v) s N) (nd : N.Nodup) (dj : ∀ a ∈ N, a ∉ A) (fr : ∀ a ∈ N, F a = none) : FrF K B F (N ++ A) σ H E (v :: xs) (s :: Xs) :=
  ⟨h.bf, h.fh, h.tf, .cons q h.sl, List.nodup_append.mpr ⟨nd, h.nd, fun a ha b hb e => dj a ha (e ▸ hb)⟩, fun a ha => (List.mem_append.mp ha).elim (fr a) (h.fr a), by simp [h.len], h.pl⟩
theorem FrF.told (h : FrF K B F A σ H E xs Xs) (g : Same H H') (q : ResOk K H H' v s) : Frm K B σ H' E (v :: xs) (s :: Xs) := by
  cases s with
  | sh d =>
    have h1 := h.grow g
    exact ⟨_, _, h1.push ⟨rfl, v, rfl, Rp.same h1.tf q⟩⟩
  | ow ds =>
    obtain ⟨l, vs, rfl, hl, hl', r⟩ := q
    have h1 := h.growN (N := [l]) g fun a ha => by rw [List.mem_singleton.mp ha]; exact ⟨hl, .inl ⟨vs, hl'⟩⟩
    exact ⟨_, _, h1.pushR (N := [l]) ⟨l, vs, rfl, rfl, hl', r.same h1.tf⟩ (by simp) (fun a ha => by rw [List.mem_singleton.mp ha]; exact h.newA hl) fun a ha => if_pos ha⟩
  | tx ps =>
    obtain ⟨t, vs, N, rfl, ht, nd, hN, r⟩ := q
    have h1 := h.growN (N := N) g fun a ha => ⟨hN a ha, .inl (r.some a ha)⟩
    exact ⟨_, _, h1.pushR (N := N) ⟨t, vs, rfl, h1.tf _ _ ht, r.stay h1.tf fun _ _ => rfl⟩ nd (fun a ha => h.newA (hN a ha)) fun a ha => if_pos ha⟩
  | no => exact False.elim q
  | od kvs =>
    obtain ⟨l, us, N, rfl, nd, hN, hl, r⟩ := q
    have h1 := h.growN (N := l :: N) g fun a ha => ⟨hN a ha, (List.mem_cons.mp ha).elim (fun z => .inr ⟨us, z ▸ hl⟩) fun z => .inl (r.some a z)⟩
    exact ⟨_, _, h1.pushR (N := l :: N) ⟨l, us, N, rfl, rfl, hl, r.stay h1.tf fun _ _ => rfl⟩ nd (fun a ha => h.newA (hN a ha)) fun a ha => if_pos ha⟩
  | al i => exact False.elim q
  | br d =>
    have h1 := h.grow g
    exact ⟨_, _, h1.push ⟨rfl, v, rfl, q⟩⟩
end
noncomputable def pCall (c : List PyData → Option Sl) (g : PAv) : PEv := fun E => (g E).bind fun a => (lookA a.2 a.1).bind fun ds => (c ds).map fun r => (r, a.2)
theorem xe_own {X : Cx} {k : Nat} {x : Str} {ps : List Str} {c : List PyData → Option Sl} {p pos : Pos} {e : Expr} {es : List Expr} {m : Bool} {g : PAv} (D : Own X.prog X.w X.K X.mg X.base k x ps (spP X.K c)) (hr : Room k X.A) (hg : Gl X x) (ha : AX X (e :: es) m g)
    (hdb : (x == ("__debug__" : Str)) = false := by decide) (he : starEach (e :: es) X.env = (false, eval e X.env) :: starEach es X.env := by rfl) (hpl : (backTo pos (starEach es X.env)).any (·.1) = false := by rfl) :
    EX X (.Call (.Name x p) (e :: es) [] pos) m (pCall c g) := by
  refine pe_imp (pe_own D hr hg ha hdb he hpl) fun σ H Q z => ?_
  obtain ⟨B, E, xs, Xs, res, E', fr, cl, e, q⟩ := z
  obtain ⟨⟨rs, E1⟩, e1, e⟩ := Option.bind_eq_some_iff.mp e
  obtain ⟨ds, e2, e⟩ := Option.bind_eq_some_iff.mp e
  obtain ⟨r, e3, e⟩ := Option.map_eq_some_iff.mp e
  cases e
  refine ⟨B, E, xs, Xs, rs, E1, fr, cl, e1, fun vs H1 hl ⟨F, A, fr1⟩ => ?_⟩
  obtain ⟨r1, A', fr2⟩ := fr1.looks hl e2
  exact ⟨ds, res, e3, by rw [List.append_nil]; exact r1, fun v H' g q' => q v H' (fr2.told g q')⟩
noncomputable def pAppend (i : Nat) (f : PEv) : PEv := fun E => match E[i]? with
  | some (.ow _) => (f E).bind fun a => (frz a.2 a.1).bind fun b => match b.2[i]? with
    | some (.ow ds) => if ds.length < 1000000 then some (.sh .none, b.2.set i (.ow (ds ++ [b.1]))) else none
    | _ => none
  | _ => none
section
variable {X : Cx} {e : Expr} {m1 : Bool} {f : PEv} {x : Str} {p apos cpos : Pos}
theorem xe_append (i : Nat) (he : EX X e m1 f) (hN : X.N[i]? = some x := by rfl) (hv : Vis X.env.scope x := by first | exact Or.inl rfl | exact Or.inr (Or.inl rfl) | exact Or.inr (Or.inr rfl)) (hd : (x == ("__debug__" : Str)) = false := by decide) (hcd : (x == ("__classdict__" : Str)) = false := by decide)
    (hs : starEach [e] X.env = [(false, eval e X.env)] := by rfl) (hbase : attributeBase (.Name x p) "append" X.env (eval (.Name x p) X.env) = eval (.Name x p) X.env := by rfl)
    (hfew : ((backTo cpos (starEach [e] X.env)).all (fun x => !x.1) && (backToKw cpos (keywordEach [] X.env)).all (fun x => x.1.isSome)
      && decide (([e] : List Expr).length + ([] : List Keyword).length + (if ([] : List Keyword).isEmpty then 0 else 1) < 30)) = true := by rfl) (hline : (apos.endLine == cpos.line) = true := by rfl) :
    EX X (.Call (.Attribute (.Name x p) "append" apos) [e] [] cpos) true (pAppend i f) := by
  refine pe_imp (pe_bm PySem.F.plainAttrs_list PySem.F.slot_list_append PySem.F.type_list_append mt_append (pe_var hN hv hd hcd) (pa_cons he pa_nil hs) hbase hfew hline hs rfl) fun σ H Q z => ?_
  obtain ⟨B, E, xs, Xs, res, E', ⟨F, A, fr⟩, cl, e, q⟩ := z
  unfold pAppend at e
  split at e
  · rename_i ds0 ei
    obtain ⟨⟨s, E1⟩, e1, e⟩ := Option.bind_eq_some_iff.mp e
    obtain ⟨⟨d, E2⟩, e2, e⟩ := Option.bind_eq_some_iff.mp e
    simp only at e
    split at e
    · rename_i ds ei2
      split at e
      · rename_i hl
        cases e
        obtain ⟨o, A1, eo, l, vs, rfl, rfl, hl0, _⟩ := fr.var ei
        refine ⟨_, eo, .inl ⟨rfl, _, SqL.of hl0⟩, B, E, xs, Xs, s, E1, ⟨F, A, fr⟩, fun _ => cl rfl, e1, fun v H1 ⟨F1, A1, fr1⟩ => ?_⟩
        obtain ⟨F2, A2, fr2⟩ := fr1.frz0 e2
        obtain ⟨v', A3, ev, rfl, w, ew, rv⟩ := fr2.ext (k := 0) rfl
        cases ev; cases ew
        obtain ⟨A4, fr3⟩ := fr2.pop
        obtain ⟨l', vs', eo', hl', r', put⟩ := fr3.mut ei2 (cl rfl)
        rw [eo] at eo'
        cases eo'
        have ll := r'.len
        have fr4 := put (vs' ++ [v]) (ds ++ [d]) (r'.snoc rv)
        exact ⟨l, vs', v, rfl, rfl, hl', small (by omega), q _ _ ⟨_, _, fr4.push ⟨rfl, _, rfl, .non⟩⟩⟩
      · cases e
    · cases e
  · cases e
end
noncomputable def frzSl (s : Sl) : Sl := match s.val with
  | some d => .sh d
  | none => .no
noncomputable def frzAll (E : List Sl) : List Sl := E.map frzSl
noncomputable def settle (E : List Sl) : Sl → Option (Sl × List Sl)
  | .al i => (frz E (.al i)).map fun a => (.sh a.1, a.2)
  | .br d => if flat d then some (.sh d, E) else some (.sh d, frzAll E)
  | s => some (s, E)
noncomputable def pSeq (g h : PSv) : PSv := fun E => (g E).bind fun a => match a.2 with
  | .nx => h a.1
  | fl => some (a.1, fl)
noncomputable def pNext : PSv := fun E => some (E, .nx)
noncomputable def pExpr (f : PEv) : PSv := fun E => (f E).map fun a => (a.2, .nx)
noncomputable def pRet (f : PEv) : PSv := fun E => (f E).bind fun a => match a.1 with
  | .al i => (a.2[i]?).map fun s => (a.2.set i .no, .rt s)
  | s => some (a.2, .rt s)
noncomputable def pIfS (c : PTv) (g h : PSv) : PSv := fun E => (c E).bind fun a => if a.1 then g a.2 else h a.2
noncomputable def pSet (i : Nat) (f : PEv) : PSv := fun E => (f E).bind fun a => (settle a.2 a.1).bind fun b => if i < b.2.length then some (b.2.set i b.1, .nx) else none
section
variable {K : PySem.W.Frag} {B F : Hp} {A : List Addr} {σ : SgT} {H : Hp} {E E' : List Sl} {xs : List V} {Xs : List Sl} {v : V} {s s' : Sl} {d : PyData}
theorem FrF.frzAll (h : FrF K B F A σ H E xs Xs) (hX : Xs = []) : FrF K B H [] σ H (PL.frzAll E) [] [] := by
  subst hX
  have hx : xs = [] := by simpa using h.len
  subst hx
  refine ⟨h.bf.trans h.fh, Same.refl _, tups_same H, ?_, List.nodup_nil, fun a ha => (by cases ha), rfl, fun s hs => ?_⟩
  · have key : ∀ {os : List (Option V)} {ss : List Sl} {C : List Addr}, SAll (SlOk K F H σ) os ss C → SAll (SlOk K H H σ) os (PL.frzAll ss) [] := fun {os ss C} r => by
      induction r with
      | nil => exact .nil
      | cons q _ ih =>
        refine .cons (A := []) ?_ ih
        unfold frzSl
        split
        · rename_i d e
          obtain ⟨v, rfl, r, _⟩ := q.val h.fh e
          exact ⟨rfl, v, rfl, r⟩
        · exact rfl
    exact key h.sl
  · obtain ⟨t, _, rfl⟩ := List.mem_map.mp hs
    unfold frzSl
    split <;> rfl
theorem FrF.settle (h : FrF K B F A σ H E (v :: xs) (s :: Xs)) (hX : Xs = []) (q : PL.settle E s = some (s', E')) : s'.isAl = false ∧ Frm K B σ H E' (v :: xs) (s' :: Xs) := by
  cases s with
  | al i =>
    obtain ⟨⟨d, E2⟩, e, z⟩ := Option.map_eq_some_iff.mp (show (frz E (.al i)).map (fun a => (Sl.sh a.1, a.2)) = some (s', E') from q)
    cases z
    obtain ⟨F', A', h'⟩ := h.frz0 e
    exact ⟨rfl, F', A', h'⟩
  | br d =>
    have r := (h.look0 (d := d) rfl).1
    obtain ⟨A', h'⟩ := h.pop
    simp only [PL.settle] at q
    split at q
    · rename_i hf
      cases q
      exact ⟨rfl, F, A', h'.push ⟨rfl, v, rfl, h.cold r hf⟩⟩
    · cases q
      have h2 := h'.frzAll hX
      have hl := h'.len
      subst hX
      have hx : xs = [] := by simpa using hl
      subst hx
      exact ⟨rfl, H, [], h2.push ⟨rfl, v, rfl, r⟩⟩
  | no => cases q; exact ⟨rfl, F, A, h⟩
  | sh d => cases q; exact ⟨rfl, F, A, h⟩
  | ow ds => cases q; exact ⟨rfl, F, A, h⟩
  | od kvs => cases q; exact ⟨rfl, F, A, h⟩
  | tx ps => cases q; exact ⟨rfl, F, A, h⟩
theorem FrF.move {i : Nat} (h : FrF K B F A σ H E (v :: xs) (.al i :: Xs)) (e : E[i]? = some s) : Frm K B σ H (E.set i .no) (v :: xs) (s :: Xs) := by
  obtain ⟨v', A1, ev, rfl, w, ew, hw⟩ := h.ext (k := 0) rfl
  cases ev; cases ew
  obtain ⟨A', h'⟩ := h.pop
  obtain ⟨o, A0, A1, A2, eA, eo, hp, put⟩ := h'.sl.at (k := Xs.length + i) (s := s) (by rw [List.getElem?_append_right (by omega)]; simpa using e)
  have z := put (SlOk K F H σ) o .no [] rfl fun _ _ _ _ _ q => q
  have e3 : (Xs ++ E).set (Xs.length + i) .no = Xs ++ E.set i .no := by
    rw [List.set_append_right _ _ (by omega), Nat.add_sub_cancel_left]
  have e2 : (List.map some xs ++ σ).set (Xs.length + i) o = List.map some xs ++ σ := List.ext_getElem? fun j => by
    by_cases hj : Xs.length + i = j
    · subst hj
      rw [List.getElem?_set_self', eo]; rfl
    · rw [List.getElem?_set_ne hj]
  rw [e2, e3] at z
  rw [List.getElem?_append_right (by rw [List.length_map, h'.len]; omega), List.length_map, h'.len, Nat.add_sub_cancel_left, hw] at eo
  cases eo
  have nd := h'.nd
  rw [eA] at nd
  refine ⟨F, A1 ++ (A0 ++ ([] ++ A2)), h.bf, h.fh, h.tf, .cons hp z, ?_, fun a ha => h'.fr a ?_, h.len, fun s' hs => ?_⟩
  · have p : (A1 ++ (A0 ++ ([] ++ A2))).Perm (A0 ++ (A1 ++ A2)) := by
      rw [List.nil_append, ← List.append_assoc, ← List.append_assoc]
      exact List.Perm.append_right _ List.perm_append_comm
    exact p.nodup_iff.mpr nd
  · rw [eA]
    simp only [List.mem_append, List.nil_append] at ha ⊢
    rcases ha with z | z | z
    · exact .inr (.inl z)
    · exact .inl z
    · exact .inr (.inr z)
  · rcases List.mem_or_eq_of_mem_set hs with hs | hs
    · exact h.pl s' hs
    · subst hs; rfl
end
section
variable {X : Cx} {st : Stmt} {rest a b : List Stmt} {g h : PSv} {e c : Expr} {m : Bool} {f : PEv} {t : PTv} {pos : Pos}
theorem xss_nil : SSX X [] pNext := pss_imp pss_nil fun D σ H z => by
  obtain ⟨B, E, xs, Xs, E', fl, fr, cl, e, q⟩ := z
  cases e
  exact q _ _ fr
theorem xss_one (h1 : SX X st g) : SSX X [st] g := pss_one h1
theorem rs_seq {K : PySem.W.Frag} {D : Ends} {σ : SgT} {H : Hp} (z : rs K (pSeq g h) D σ H) : rs K g { D with nx := rs K h D } σ H := by
  obtain ⟨B, E, xs, Xs, E', fl, fr, cl, e, q⟩ := z
  obtain ⟨⟨E1, f1⟩, e1, e⟩ := Option.bind_eq_some_iff.mp e
  refine ⟨B, E, xs, Xs, E1, f1, fr, cl, e1, ?_⟩
  cases f1 with
  | nx => exact fun σ' H' fr' => ⟨B, E1, xs, Xs, E', fl, fr', cl, e, q⟩
  | bk => cases e; exact q
  | ct => cases e; exact q
  | rt r => cases e; exact q
theorem xss_cons (h1 : SX X st g) (h2 : SSX X rest h) : SSX X (st :: rest) (pSeq g h) := pss_imp (pss_cons h1 h2) fun D σ H z => rs_seq z
theorem xs_expr (he : EX X e m f) (hs : swapsWith e none pos.line X.env = pure false := by rfl) : SX X (.Expr e pos) (pExpr f) := ps_imp (ps_expr he hs) fun D σ H z => by
  obtain ⟨B, E, xs, Xs, E', fl, fr, cl, e, q⟩ := z
  obtain ⟨⟨s, E1⟩, e1, e⟩ := Option.map_eq_some_iff.mp e
  cases e
  refine ⟨B, E, xs, Xs, s, E1, fr, fun _ => Calm.nil cl, e1, fun v H1 ⟨F, A, fr1⟩ => ?_⟩
  obtain ⟨A', fr2⟩ := fr1.pop
  exact q _ _ ⟨F, A', fr2⟩
theorem xs_ret (he : EX X e m f) : SX X (.Return (some e) pos) (pRet f) := ps_imp (ps_ret he) fun D σ H z => by
  obtain ⟨B, E, xs, Xs, E', fl, fr, cl, e, q⟩ := z
  obtain ⟨⟨s, E1⟩, e1, e⟩ := Option.bind_eq_some_iff.mp e
  refine ⟨B, E, xs, Xs, s, E1, fr, fun _ => Calm.nil cl, e1, fun v H1 ⟨F, A, fr1⟩ => ?_⟩
  simp only at e
  split at e
  · obtain ⟨s', es, e⟩ := Option.map_eq_some_iff.mp e
    cases e
    exact q σ _ _ (fr1.move es)
  · cases e
    exact q σ _ _ ⟨F, A, fr1⟩
theorem xs_if (hc : TX X c m t) (ha : SSX X a g) (hb : SSX X b h) : SX X (.If c a b pos) (pIfS t g h) := ps_imp (ps_if hc ha hb) fun D σ H z => by
  obtain ⟨B, E, xs, Xs, E', fl, fr, cl, e, q⟩ := z
  obtain ⟨⟨b1, E1⟩, e1, e⟩ := Option.bind_eq_some_iff.mp e
  refine ⟨B, E, xs, Xs, b1, E1, fr, fun _ => Calm.nil cl, e1, fun H1 fr1 => ?_⟩
  cases b1 with
  | true => exact (if_pos rfl).mpr ⟨B, E1, xs, Xs, E', fl, fr1, cl, e, q⟩
  | false => exact (if_neg (by decide)).mpr ⟨B, E1, xs, Xs, E', fl, fr1, cl, e, q⟩
theorem xs_set (i : Nat) {x : Str} {pos' : Pos} (hN : X.N.Nodup) (he : EX X e m f) (hi : X.N[i]? = some x := by rfl) (hx : Loc X.env.scope x := by first | exact Or.inl rfl | exact Or.inr rfl) (hs : swapsWith e (some (.Name x pos')) pos.line X.env = pure false := by rfl) (hf : X.fn x = true ∨ X.env.scope.names.lookup x = some .local := by first | exact .inl rfl | exact .inr rfl | assumption) :
    SX X (.Assign [.Name x pos'] e pos) (pSet i f) := ps_imp (ps_set hN hi hx he hs hf) fun D σ H z => by
  obtain ⟨B, E, xs, Xs, E', fl, fr, cl, e, q⟩ := z
  obtain ⟨⟨s, E1⟩, e1, e⟩ := Option.bind_eq_some_iff.mp e
  obtain ⟨⟨s', E2⟩, e2, e⟩ := Option.bind_eq_some_iff.mp e
  refine ⟨B, E, xs, Xs, s, E1, fr, fun _ => Calm.nil cl, e1, fun v H1 ⟨F, A, fr1⟩ => ?_⟩
  obtain ⟨c1, F2, A2, fr2⟩ := fr1.settle cl e2
  simp only at e
  split at e
  · rename_i hi
    cases e
    obtain ⟨A3, fr3⟩ := fr2.store c1 (Still.nil cl) hi
    exact q _ _ ⟨F2, A3, fr3⟩
  · cases e
end
end PL
namespace PL
open PySem L2 Nh
noncomputable abbrev PGv := PyData → List Sl → Option (List Sl)
noncomputable abbrev PGsv := List PyData → List Sl → Option (List Sl)
noncomputable def rg (K : PySem.W.Frag) (h : PGv) : TG := fun v σ H Q => ∃ B E xs Xs d E', Frm K B σ H E (v :: xs) (.sh d :: Xs) ∧ Still Xs ∧ h d E = some E' ∧ ∀ σ' H', Frm K B σ' H' E' xs Xs → Q σ' H'
noncomputable def rgs (K : PySem.W.Frag) (h : PGsv) : TGs := fun vs σ H Q => ∃ B E xs Xs ds E', vs.length = ds.length ∧ Frm K B σ H E (vs ++ xs) (ds.map .sh ++ Xs) ∧ Still Xs ∧ h ds E = some E' ∧ ∀ σ' H', Frm K B σ' H' E' xs Xs → Q σ' H'
noncomputable def GX (X : Cx) (e : Expr) (h : PGv) : Prop := PG X e (rg X.K h)
noncomputable def GsX (X : Cx) (es : List Expr) (h : PGsv) : Prop := PGs X es (rgs X.K h)
noncomputable def gNameP (i : Nat) : PGv := fun d E => if i < E.length then some (E.set i (.sh d)) else none
noncomputable def gNilP : PGsv := fun ds E => if ds.isEmpty then some E else none
noncomputable def gConsP (h : PGv) (hs : PGsv) : PGsv := fun ds E => match ds with
  | d :: ds => (h d E).bind (hs ds)
  | [] => none
noncomputable def gTupP (n : Nat) (hs : PGsv) : PGv := fun d E => match d with
  | .tuple ds => if ds.length = n then hs ds E else none
  | _ => none
section
variable {X : Cx}
theorem pg_imp {e : Expr} {t t' : TG} (h : PG X e t) (k : ∀ v σ H Q, t' v σ H Q → t v σ H Q) : PG X e t' := fun pins s σ H v u Q I r q => h pins s σ H v u Q I r (k v σ H Q q)
theorem pgs_imp {es : List Expr} {t t' : TGs} (h : PGs X es t) (k : ∀ v σ H Q, t' v σ H Q → t v σ H Q) : PGs X es t' := fun pins s σ H v u Q I r q => h pins s σ H v u Q I r (k v σ H Q q)
theorem xg_name (i : Nat) {x : Str} {pos : Pos} (hN : X.N.Nodup) (hi : X.N[i]? = some x := by rfl) (hx : Loc X.env.scope x := by first | exact Or.inl rfl | exact Or.inr rfl) (hf : X.fn x = true ∨ X.env.scope.names.lookup x = some .local := by first | exact .inl rfl | exact .inr rfl | assumption) : GX X (.Name x pos) (gNameP i) := pg_imp (pg_name hN hi hx hf) fun v σ H Q z => by
  obtain ⟨B, E, xs, Xs, d, E', ⟨F, A, fr⟩, cl, e, q⟩ := z
  unfold gNameP at e
  split at e
  · rename_i hi
    cases e
    obtain ⟨A', fr'⟩ := fr.store rfl cl hi
    exact q _ _ ⟨F, A', fr'⟩
  · cases e
theorem xgs_nil : GsX X [] gNilP := pgs_imp pgs_nil fun v σ H Q z => by
  obtain ⟨B, E, xs, Xs, ds, E', hl, fr, cl, e, q⟩ := z
  unfold gNilP at e
  split at e
  · rename_i hd
    cases e
    have : ds = [] := by simpa using hd
    subst this
    have hv : v = [] := by simpa using hl
    subst hv
    exact ⟨rfl, q _ _ fr⟩
  · cases e
theorem xgs_cons {e : Expr} {es : List Expr} {h : PGv} {hs : PGsv} (h1 : GX X e h) (h2 : GsX X es hs) (hst : (assignEach (e :: es) X.env).map (·.2) = assign e X.env :: (assignEach es X.env).map (·.2) := by rfl) : GsX X (e :: es) (gConsP h hs) := pgs_imp (pgs_cons h1 h2 hst) fun v σ H Q z => by
  obtain ⟨B, E, xs, Xs, ds, E', hl, fr, cl, e, q⟩ := z
  cases ds with
  | nil => cases e
  | cons d ds =>
    cases v with
    | nil => cases hl
    | cons v vs =>
      obtain ⟨E1, e1, e2⟩ := Option.bind_eq_some_iff.mp e
      refine ⟨v, vs, rfl, B, E, vs ++ xs, ds.map Sl.sh ++ Xs, d, E1, fr, fun s hs => ?_, e1, fun σ1 H1 fr1 => ⟨B, E1, xs, Xs, ds, E', by simpa using hl, fr1, cl, e2, q⟩⟩
      rcases List.mem_append.mp hs with hs | hs
      · obtain ⟨d', _, rfl⟩ := List.mem_map.mp hs
        rfl
      · exact cl s hs
theorem xg_tup {es : List Expr} {k : Nat} {pos : Pos} {hs : PGsv} {n : Nat} (hc : X.calm = true) (h : GsX X es hs) (hn : (assignEach es X.env).length = n := by rfl) (hst : (assignEach es X.env).findIdx? (·.1) = none := by rfl) : GX X (.Tuple es k pos) (gTupP n hs) := pg_imp (pg_tup hc h hn hst) fun v σ H Q z => by
  obtain ⟨B, E, xs, Xs, d, E', ⟨F, A, fr⟩, cl, e, q⟩ := z
  unfold gTupP at e
  split at e
  · rename_i ds
    split at e
    · rename_i hl
      obtain ⟨v', A1, ev, rfl, w, ew, r⟩ := fr.ext (k := 0) rfl
      cases ev; cases ew
      cases r with
      | tup h1 h2 =>
        obtain ⟨A', fr'⟩ := fr.pop
        have key : ∀ {us : List V} {es : List PyData}, RpA X.K F us es → FrF X.K B F A' σ H E (us ++ xs) (es.map .sh ++ Xs) := fun {us es} r => by
          induction us generalizing es with
          | nil => cases r; exact fr'
          | cons u us ih =>
            cases r with
            | cons r1 r2 => exact (ih r2).push ⟨rfl, _, rfl, r1⟩
        exact ⟨_, _, rfl, fr.fh.tup h1, by rw [h2.len]; exact hl, B, E, xs, Xs, ds, E', h2.len, ⟨F, A', key h2⟩, cl, e, q⟩
    · cases e
  · cases e
end
noncomputable def ItOk (K : PySem.W.Frag) (B0 : Hp) (J : It) (ds : List PyData) : Prop := ∀ {B F : Hp} {A : List Addr} {σ : SgT} {H : Hp} {E : List Sl} {xs : List V} {Xs : List Sl} (i : Nat), Same B0 B → FrF K B F A σ H E xs Xs →
  (∀ d, ds[i]? = some d → J.go i H ∧ ∀ x H2, J.yld i H x H2 → Frm K B σ H2 E (x :: xs) (.sh d :: Xs)) ∧ (i = ds.length → J.stop i H)
noncomputable def ri (K : PySem.W.Frag) (m : Bool) (f : PDv) : TI := fun σ H R => ∃ B E xs Xs ds E', Frm K B σ H E xs Xs ∧ (m = true → Calm Xs) ∧ f E = some (ds, E') ∧ ∀ B' J H', Same B B' → Frm K B' σ H' E' xs Xs → ItOk K B' J ds → R J H'
noncomputable def IX (X : Cx) (tg e : Expr) (m : Bool) (f : PDv) : Prop := PI X tg e (ri X.K m f)
theorem FrF.base {K : PySem.W.Frag} {B B' F : Hp} {A : List Addr} {σ : SgT} {H : Hp} {E : List Sl} {xs : List V} {Xs : List Sl} (h : FrF K B' F A σ H E xs Xs) (s : Same B B') : FrF K B F A σ H E xs Xs := ⟨s.trans h.bf, h.fh, h.tf, h.sl, h.nd, h.fr, h.len, h.pl⟩
theorem Frm.base {K : PySem.W.Frag} {B B' : Hp} {σ : SgT} {H : Hp} {E : List Sl} {xs : List V} {Xs : List Sl} (h : Frm K B' σ H E xs Xs) (s : Same B B') : Frm K B σ H E xs Xs := let ⟨F, A, h⟩ := h; ⟨F, A, h.base s⟩
theorem FrF.raise {K : PySem.W.Frag} {B F : Hp} {A : List Addr} {σ : SgT} {H : Hp} {E : List Sl} {xs : List V} {Xs : List Sl} (h : FrF K B F A σ H E xs Xs) : FrF K F F A σ H E xs Xs := ⟨Same.refl _, h.fh, h.tf, h.sl, h.nd, h.fr, h.len, h.pl⟩
noncomputable def rngD (lo : Int) (n : Nat) : List PyData := (List.range n).map fun (k : Nat) => .int (lo + (k : Int))
noncomputable def iRng1P (g : PAv) : PDv := fun E => (g E).bind fun a => match lookA a.2 a.1 with
  | some [.int j] => if -1000000 ≤ j ∧ j ≤ 1000000 then some (rngD 0 j.toNat, a.2) else none
  | _ => none
section
variable {X : Cx} {tg e e2 : Expr} {m : Bool} {f : PEv} {g : PAv} {p pos : Pos} {K : PySem.W.Frag} {B : Hp}
theorem pi_imp {t t' : TI} (h : PI X tg e t) (k : ∀ σ H Q, t' σ H Q → t σ H Q) : PI X tg e t' := fun pins s σ H R I q => h pins s σ H R I (k σ H R q)
theorem itOk_list {a : Addr} {vs : List V} {ds : List PyData} (h : SqL K B a vs) (r : RpA K B vs ds) : ItOk K B (Itl K a) ds := fun {B' F A σ H E xs Xs} i sB fr => by
  have hH := fr.fh.seq (fr.bf.seq (sB.seq h))
  refine ⟨fun d ed => ?_, fun e => ⟨vs, hH, by rw [e, r.len]; exact Nat.le_refl _⟩⟩
  obtain ⟨v, ev, rv⟩ := r.get ed
  refine ⟨⟨vs, v, hH, ev⟩, fun x H2 ⟨e2, y⟩ => ?_⟩
  subst e2
  have := y vs hH
  rw [ev] at this
  cases this
  exact ⟨F, A, fr.push ⟨rfl, _, rfl, rv.same (sB.trans fr.bf)⟩⟩
theorem itOk_range {lo : Int} {n : Nat} : ItOk K B (Itr lo n) (rngD lo n) := fun {B' F A σ H E xs Xs} i sB fr => by
  have hl : (rngD lo n).length = n := by simp [rngD]
  refine ⟨fun d ed => ?_, fun e => ?_⟩
  · have hi : i < n := by have := (List.getElem?_eq_some_iff.mp ed).1; omega
    refine ⟨hi, fun x H2 ⟨e2, y⟩ => ?_⟩
    subst e2 y
    have : d = .int (lo + i) := by
      unfold rngD at ed
      rw [List.getElem?_map, List.getElem?_range hi] at ed
      exact (Option.some.inj ed).symm
    subst this
    exact ⟨F, A, fr.push ⟨rfl, _, rfl, .int _⟩⟩
  · show n ≤ i
    omega
theorem xi_range1 (hg : Gl X "range") (hm : X.mg "range" = none) (ha : AX X [e] m g) (hs : starEach [e] X.env = [(false, eval e X.env)] := by rfl) : IX X tg (.Call (.Name "range" p) [e] [] pos) m (iRng1P g) := pi_imp (pi_range1 hg hm ha hs) fun σ H R z => by
  obtain ⟨B, E, xs, Xs, ds, E', fr, cl, e, q⟩ := z
  obtain ⟨⟨rs, E1⟩, e1, e⟩ := Option.bind_eq_some_iff.mp e
  refine ⟨B, E, xs, Xs, rs, E1, fr, cl, e1, fun vs H1 hl ⟨F, A, fr1⟩ => ?_⟩
  simp only at e
  split at e
  · rename_i j ld
    split at e
    · rename_i hj
      cases e
      obtain ⟨r, A', fr2⟩ := fr1.looks hl ld
      obtain ⟨v, rfl, r'⟩ := r.one
      cases r'
      exact ⟨j, rfl, by omega, by omega, q B _ _ (Same.refl _) ⟨F, A', fr2⟩ itOk_range⟩
    · cases e
  · cases e
end
noncomputable def pLoop (tg : PGv) (body : PSv) : List PyData → PSv
  | [], E => some (E, .nx)
  | d :: ds, E => ((tg d E).bind body).bind fun a => match a.2 with
    | .nx => pLoop tg body ds a.1
    | .ct => pLoop tg body ds a.1
    | .bk => some (a.1, .nx)
    | .rt r => some (a.1, .rt r)
noncomputable def pFor (it : PDv) (tg : PGv) (body : PSv) : PSv := fun E => (it E).bind fun a => pLoop tg body a.1 a.2
theorem xs_for {X : Cx} {tg iter : Expr} {body : List Stmt} {m : Bool} {it : PDv} {g : PGv} {b : PSv} {pos : Pos} (hp : PassesOwn (model X.prog X.w) X.A X.env X.xe) (hc : X.calm = true) (hi : IX X tg iter m it) (hg : GX X tg g) (hb : SSX X body b)
    (hs : ∀ x, foldedSetIterable iter X.env x = pure x := by intro _; rfl) : SX X (.For tg iter body [] pos) (pFor it g b) := ps_imp (ps_for hp hc hi hg hb hs) fun D σ H z => by
  obtain ⟨B, E, xs, Xs, E', fl, fr, cl, e, q⟩ := z
  obtain ⟨⟨ds, E1⟩, e1, e⟩ := Option.bind_eq_some_iff.mp e
  refine ⟨B, E, xs, Xs, ds, E1, fr, fun _ => Calm.nil cl, e1, fun B' J H1 hB fr1 ok => ?_⟩
  refine ⟨fun i mm σ' H' => mm = ds.length - i ∧ i ≤ ds.length ∧ ∃ Ei, pLoop g b (ds.drop i) Ei = some (E', fl) ∧ Frm X.K B' σ' H' Ei xs Xs, ⟨ds.length, by simp, Nat.zero_le _, E1, by simpa using e, fr1⟩, ?_⟩
  rintro i mm σ' H' ⟨rfl, hi, Ei, ei, F, A, fri⟩
  obtain ⟨go, stop⟩ := ok i (Same.refl _) fri
  by_cases hlt : i < ds.length
  · obtain ⟨d, ed⟩ : ∃ d, ds[i]? = some d := ⟨ds[i], List.getElem?_eq_getElem hlt⟩
    obtain ⟨g1, yl⟩ := go d ed
    have edr : ds.drop i = d :: ds.drop (i + 1) := by
      rw [List.drop_eq_getElem_cons hlt]
      congr 1
      exact Option.some.inj ((List.getElem?_eq_getElem hlt).symm.trans ed)
    rw [edr] at ei
    obtain ⟨⟨E2, f2⟩, e2, ei⟩ := Option.bind_eq_some_iff.mp ei
    obtain ⟨E3, e3, e2⟩ := Option.bind_eq_some_iff.mp e2
    refine .inr ⟨g1, fun σ2 H2 => ∃ Ej, pLoop g b (ds.drop (i + 1)) Ej = some (E', fl) ∧ Frm X.K B' σ2 H2 Ej xs Xs, fun σ2 H2 ⟨Ej, ej, frj⟩ => ⟨ds.length - (i + 1), by omega, rfl, hlt, Ej, ej, frj⟩, fun x H2 y => ?_⟩
    refine ⟨B', Ei, xs, Xs, d, E3, yl x H2 y, Still.nil cl, e3, fun σ3 H3 fr3 => ?_⟩
    refine ⟨B', E3, xs, Xs, E2, f2, fr3, cl, e2, ?_⟩
    cases f2 with
    | nx => exact fun σ4 H4 fr4 => ⟨E2, ei, fr4⟩
    | ct => exact fun σ4 H4 fr4 => ⟨E2, ei, fr4⟩
    | bk => cases ei; exact fun σ4 H4 fr4 => q _ _ (fr4.base hB)
    | rt r => cases ei; exact fun σ4 v H4 fr4 => q _ _ _ (fr4.base hB)
  · have e0 : i = ds.length := by omega
    refine .inl ⟨stop e0, ?_⟩
    rw [e0, List.drop_length] at ei
    cases ei
    exact q _ _ (Frm.base ⟨F, A, fri⟩ hB)
noncomputable def Clean : Sl → Bool
  | .sh d => flat d
  | .ow ds => flatA ds
  | .tx ps => ps.all fun p => match p with | .fl d => flat d | .ol ds => flatA ds
  | .od kvs => kvs.all fun p => flatA p.2
  | _ => false
noncomputable def startE (n : Nat) (ds : List PyData) : List Sl := ds.map .sh ++ List.replicate (n - ds.length) .no
noncomputable def outS (r : Sl) : Option Sl := if Clean r then some r else match r with
  | .sh d => some (.br d)
  | .ow ds => some (.br (.list ds))
  | .tx ps => some (.br (.tuple (ps.map Pt.val)))
  | .br d => some (if flat d then .sh d else .br d)
  | _ => none
noncomputable def runB (n : Nat) (g : PSv) : List PyData → Option Sl := fun ds => (g (startE n ds)).bind fun a => match a.2 with
  | .rt r => outS r
  | .nx => some (.sh .none)
  | _ => none
section
variable {K : PySem.W.Frag} {B F : Hp} {A : List Addr} {σ : SgT} {H : Hp} {E : List Sl} {v : V} {r : Sl}
theorem DlOk.cold {F H : Hp} (sF : Same F H) : ∀ {us : List (Key × V)} {kvs : List (Key × List PyData)} {A : List Addr}, (∀ p ∈ kvs, flatA p.2 = true) → DlOk K F H us kvs A → DlOk K (tups H) H us kvs A
  | [], [], A, _, h => h
  | p :: us, q :: kvs, A, c, h => by
    obtain ⟨l, vs, A', rfl, rfl, hl, hr, k⟩ := h
    exact ⟨l, vs, A', rfl, rfl, hl, (hr.same sF).cold (c q (List.mem_cons_self ..)), DlOk.cold sF (fun p hp => c p (List.mem_cons_of_mem _ hp)) k⟩
  | [], _ :: _, _, _, h => False.elim h
  | _ :: _, [], _, _, h => False.elim h
theorem PtsOk.cold {F H G : Hp} (sF : Same F H) (tG : ∀ {v : V} {d : PyData}, Rp K F v d → flat d = true → Rp K G v d) : ∀ {vs : List V} {ps : List Pt} {A : List Addr}, (∀ p ∈ ps, (match p with | .fl d => flat d | .ol ds => flatA ds) = true) → PtsOk K F H vs ps A → PtsOk K G H vs ps A
  | [], [], A, _, h => h
  | v :: vs, .fl d :: ps, A, c, h => ⟨tG h.1 (c (.fl d) (List.mem_cons_self ..)), PtsOk.cold sF tG (fun p hp => c p (List.mem_cons_of_mem _ hp)) h.2⟩
  | v :: vs, .ol ds :: ps, A, c, h => by
    obtain ⟨l, us, A', rfl, rfl, hl, hr, q⟩ := h
    refine ⟨l, us, A', rfl, rfl, hl, ?_, q.cold sF tG fun p hp => c p (List.mem_cons_of_mem _ hp)⟩
    have cd : flatA ds = true := c (.ol ds) (List.mem_cons_self ..)
    have key : ∀ {us : List V} {ds : List PyData}, RpA K F us ds → flatA ds = true → RpA K G us ds := fun {us ds} r c => by
      induction us generalizing ds with
      | nil => cases r; exact .nil
      | cons u us ih =>
        cases r with
        | cons r1 r2 =>
          simp only [flatA, Bool.and_eq_true] at c
          exact .cons (tG r1 c.1) (ih r2 c.2)
    exact key hr cd
  | [], _ :: _, _, _, h => False.elim h
  | _ :: _, [], _, _, h => False.elim h
theorem FrF.result (h : FrF K B F A σ H E [v] [r]) (c : Clean r = true) : Same B H ∧ ResOk K B H v r := by
  refine ⟨h.bf.trans h.fh, ?_⟩
  have nB : ∀ a, F a = none → B a = none := fun a e => h.bf.free e
  have cold : ∀ {v : V} {d : PyData}, Rp K F v d → flat d = true → Rp K (tups H) v d := fun r f => (r.same h.fh).cold f
  obtain ⟨v', A1, ev, hs⟩ := h.ext (k := 0) rfl
  cases ev
  obtain ⟨o, C0, C1, C2, eA, eo, hp, _⟩ := h.sl.at (k := 0) (s := r) rfl
  cases eo
  have sub : ∀ a ∈ C1, F a = none := fun a ha => h.fr a (by rw [eA]; simp [ha])
  have nd : C1.Nodup := by
    have := h.nd
    rw [eA] at this
    exact (List.nodup_append.mp (List.nodup_append.mp this).2.1).1
  cases r with
  | sh d => obtain ⟨_, w, ew, r⟩ := hp; cases ew; exact cold r c
  | ow ds =>
    obtain ⟨l, vs, el, rfl, hl, r⟩ := hp
    cases el
    exact ⟨l, vs, rfl, nB l (sub l (by simp)), hl, (r.same h.fh).cold c⟩
  | tx ps =>
    obtain ⟨t, vs, et, ht, r⟩ := hp
    cases et
    exact ⟨t, vs, C1, rfl, tups_of (h.fh _ _ ht) rfl, nd, fun a ha => nB a (sub a ha), r.cold h.fh cold (by simpa [Clean, List.all_eq_true] using c)⟩
  | no => cases c
  | od kvs =>
    obtain ⟨l, us, A', el, rfl, hl, r⟩ := hp
    cases el
    exact ⟨l, us, A', rfl, nd, fun a ha => nB a (sub a ha), hl, r.cold h.fh (by simpa [Clean, List.all_eq_true] using c)⟩
  | al i => cases c
  | br d => cases c
theorem FrF.resultO {r' : Sl} (h : FrF K B F A σ H E [v] [r]) (c : outS r = some r') : Same B H ∧ ResOk K B H v r' := by
  unfold outS at c
  split at c
  · rename_i hc
    cases c
    exact h.result hc
  · refine ⟨h.bf.trans h.fh, ?_⟩
    cases r with
    | sh d => cases c; exact (h.look0 (d := d) rfl).1
    | ow ds => cases c; exact (h.look0 (d := .list ds) rfl).1
    | tx ps => cases c; exact (h.look0 (d := .tuple (ps.map Pt.val)) rfl).1
    | br d =>
      have r := (h.look0 (d := d) rfl).1
      simp only at c
      split at c
      · rename_i hf
        cases c
        exact r.cold hf
      · cases c
        exact r
    | no => cases c
    | od kvs => cases c
    | al i => cases c
theorem startFr {N : List Str} {vs : List V} {ds : List PyData} (r : RpA K H vs ds) (hn : ds.length ≤ N.length) : FrF K H H [] (L2.start N vs) H (startE N.length ds) [] [] := by
  refine ⟨Same.refl _, Same.refl _, tups_same H, ?_, List.nodup_nil, fun a ha => (by cases ha), rfl, ?_⟩
  · have l := r.len
    unfold L2.start startE
    rw [l]
    generalize N.length - ds.length = k
    have base : ∀ τ : SgT, SAll (SlOk K H H τ) (List.replicate k none) (List.replicate k .no) [] := fun τ => by
      induction k with
      | zero => exact .nil
      | succ k ih => exact .cons (A := []) rfl ih
    have key : ∀ (τ : SgT) {us : List V} {es : List PyData}, RpA K H us es → SAll (SlOk K H H τ) (us.map some ++ List.replicate k none) (es.map .sh ++ List.replicate k .no) [] := fun τ us es r => by
      induction us generalizing es with
      | nil => cases r; exact base τ
      | cons u us ih =>
        cases r with
        | cons r1 r2 => exact .cons (A := []) ⟨rfl, _, rfl, r1⟩ (ih _ r2)
    exact key _ r
  · intro s hs
    unfold startE at hs
    rcases List.mem_append.mp hs with hs | hs
    · obtain ⟨d, _, rfl⟩ := List.mem_map.mp hs
      rfl
    · rw [(List.mem_replicate.mp hs).2]
      rfl
end
noncomputable def fnB (k n : Nat) (g : PSv) : List PyData → Option Sl := fun ds => if ds.length = k then runB n g ds else none
theorem ownP {P : Program} {w : World} {K : PySem.W.Frag} {mg : Str → Option Value} {base : Heap} {x : Str} {st : Stmt} {N ps : List Str} {k a n : Nat} {g : PSv} (D : Def K mg x st ps) (S : FnScope N ps (defScope st)) (hpa : ps.length = a) (hNn : N.length = n) (hps : a ≤ n)
    (hbody : ∀ (f : Addr) (cdv : Value) (A : Around) (outer : List Env) (s : Shared) (H : Hp) (E : XK), Room k (A.deeper (PyProof.Rows.envOfC x (defScope st) s.heap.objs.size f cdv)) →
      SSX (cxOf CX0 P w K mg base N x (defScope st) f cdv A outer s H E).nox (defBody st) g) : Own P w K mg base (k + 1) x ps (spP K (fnB a n g)) := by
  subst hpa hNn
  refine D.own S (fun vs H Q E h => ?_) (fun f cdv A outer s H vs Q E hr h => ?_)
  · obtain ⟨ds, r, e, rp, _⟩ := h
    unfold fnB at e
    split at e
    · rename_i hl
      rw [rp.len]; exact hl
    · cases e
  obtain ⟨ds, r, e, rp, q⟩ := h
  unfold fnB at e
  split at e
  · rename_i hl
    refine ⟨_, hbody f cdv A outer s H E hr, ?_⟩
    obtain ⟨⟨E', fl⟩, e1, e⟩ := Option.bind_eq_some_iff.mp e
    refine ⟨H, startE N.length ds, [], [], E', fl, ⟨H, [], startFr rp (by omega)⟩, rfl, e1, ?_⟩
    cases fl with
    | nx =>
      cases e
      rintro σ' H' ⟨F', A', fr'⟩
      exact q _ _ (fr'.bf.trans fr'.fh) .non
    | bk => cases e
    | ct => cases e
    | rt r' =>
      rintro σ' v H' ⟨F', A', fr'⟩
      obtain ⟨s1, s2⟩ := fr'.resultO e
      exact q v H' s1 s2
  · cases e
theorem fnP {P : Program} {w : World} {K : PySem.W.Frag} {mg : Str → Option Value} {base : Heap} {x : Str} {st : Stmt} {N ps : List Str} {k a n : Nat} {g : PSv} {f0 : Addr} {fd : FuncData} (D : Fun K x x st f0 fd) (S : FnScope N ps (defScope st)) (hpa : ps.length = a) (hNn : N.length = n) (hps : a ≤ n)
    (hbody : ∀ (cdv : Value) (A : Around) (outer : List Env) (s : Shared) (H : Hp) (E : XK), Room k (A.deeper (PyProof.Rows.envOfC x (defScope st) s.heap.objs.size f0 cdv)) →
      SSX (cxOf CX0 P w K mg base N x (defScope st) f0 cdv A outer s H E).nox (defBody st) g) : FnOk P w K mg base CX0 (k + 1) f0 fd ps (spP K (fnB a n g)) := by
  subst hpa hNn
  refine D.ok S (fun vs H Q E h => ?_) (fun cdv A outer s H vs Q E hr h => ?_)
  · obtain ⟨ds, r, e, rp, _⟩ := h
    unfold fnB at e
    split at e
    · rename_i hl
      rw [rp.len]; exact hl
    · cases e
  obtain ⟨ds, r, e, rp, q⟩ := h
  unfold fnB at e
  split at e
  · rename_i hl
    refine ⟨_, hbody cdv A outer s H E hr, ?_⟩
    obtain ⟨⟨E', fl⟩, e1, e⟩ := Option.bind_eq_some_iff.mp e
    refine ⟨H, startE N.length ds, [], [], E', fl, ⟨H, [], startFr rp (by omega)⟩, rfl, e1, ?_⟩
    cases fl with
    | nx =>
      cases e
      rintro σ' H' ⟨F', A', fr'⟩
      exact q _ _ (fr'.bf.trans fr'.fh) .non
    | bk => cases e
    | ct => cases e
    | rt r' =>
      rintro σ' v H' ⟨F', A', fr'⟩
      obtain ⟨s1, s2⟩ := fr'.resultO e
      exact q v H' s1 s2
  · cases e
theorem rpA_intsR {K : PySem.W.Frag} {H : Hp} : ∀ ns : List Int, RpA K H (ns.map V.int) (ns.map PyData.int)
  | [] => .nil
  | n :: ns => .cons (.int n) (rpA_intsR ns)
theorem law_sp {K : PySem.W.Frag} {H : Hp} {a : Addr} {ns : List Int} {c : List PyData → Option Sl} (e : c [.list (ns.map .int)] = some (.sh (.bool true))) (h : SqL K H a (ns.map V.int)) : spP K c [.ref a] H (fun v _ => v = .bl true) fun _ _ _ => False :=
  ⟨_, _, e, .cons (.lst h (rpA_intsR ns)) .nil, fun v H' _ r => by
    have r' : Rp K (tups H') v (.bool true) := r
    cases r'
    rfl⟩
end PL
namespace PL
open PySem L2 Nh
noncomputable def slotE (E : List Sl) : Option Nat → Sl
  | none => .no
  | some j => match (E[j]?).bind Sl.val with
    | some d => .sh d
    | none => .no
noncomputable def slotsE (js : List (Option Nat)) (E : List Sl) : List Sl := js.map (slotE E)
noncomputable def tYesP : PTv := fun E => some (true, E)
noncomputable def cLoop (tg : PGv) (cond : PTv) (elt : PEv) : List PyData → List Sl → Option (List PyData)
  | [], _ => some []
  | d :: ds, E => (tg d E).bind fun E1 => (cond E1).bind fun b => if b.1 then (elt b.2).bind fun c => (frz c.2 c.1).bind fun e => (cLoop tg cond elt ds e.2).map fun r => e.1 :: r else cLoop tg cond elt ds b.2
noncomputable def pComp (js : List (Option Nat)) (it : PDv) (tg : PGv) (cond : PTv) (elt : PEv) : PEv := fun E => (it E).bind fun a => (cLoop tg cond elt a.1 (slotsE js a.2)).bind fun ds => if flatA ds && decide (ds.length ≤ 1000000) then some (.ow ds, a.2) else none
section
variable {X : Cx} {elt target iter : Expr} {ifs : List Expr} {scope sc : Scope} {cl : List (Str × Addr)} {N : List Str} {pos : Pos} {js : List (Option Nat)} {K : PySem.W.Frag}
theorem slots_fr {B F : Hp} {A : List Addr} {σ : SgT} {H : Hp} {E : List Sl} {xs : List V} {Xs : List Sl} (fr : FrF K B F A σ H E xs Xs) (js : List (Option Nat)) : FrF K H H [] (slots js σ) H (slotsE js E) [] [] := by
  refine ⟨Same.refl _, Same.refl _, tups_same H, ?_, List.nodup_nil, fun a ha => (by cases ha), rfl, fun s hs => ?_⟩
  · have key : ∀ (τ : SgT) (ks : List (Option Nat)), SAll (SlOk K H H τ) (slots ks σ) (slotsE ks E) [] := fun τ ks => by
      induction ks with
      | nil => exact .nil
      | cons j ks ih =>
        refine .cons (A := []) ?_ ih
        cases j with
        | none => exact rfl
        | some j =>
          show SlOk K H H τ _ (match (E[j]?).bind Sl.val with | some d => .sh d | none => .no) []
          cases ej : E[j]? with
          | none => exact rfl
          | some s =>
            cases ev : s.val with
            | none => simp only [Option.bind_some, ev]; exact rfl
            | some d =>
              simp only [Option.bind_some, ev]
              obtain ⟨o, A1, eo, hs⟩ := fr.var ej
              obtain ⟨v, rfl, r, _⟩ := hs.val fr.fh ev
              refine ⟨rfl, v, ?_, r⟩
              show (σ[j]?).join = some v
              rw [eo]
              rfl
    exact key _ js
  · obtain ⟨j, _, rfl⟩ := List.mem_map.mp hs
    cases j with
    | none => rfl
    | some j =>
      simp only [slotE]
      split <;> rfl
theorem comp_core {m2 m3 : Bool} {tg : PGv} {cond : PTv} {el : PEv} {tt : TT} (htt : ∀ σ H Q, rt K m2 cond σ H Q → tt σ H Q) {B B' F : Hp} {A : List Addr} {σ : SgT} {H1 : Hp} {E1 : List Sl} {xs : List V} {Xs : List Sl} {ds rs : List PyData} {J : It} {Q : VK}
    (fr1 : FrF K B F A σ H1 E1 xs Xs) (B2 : Same B' H1) (ok : ItOk K B' J ds) (e2 : cLoop tg cond el ds (slotsE js E1) = some rs) (hc : flatA rs = true ∧ rs.length ≤ 1000000) (q : ∀ v H', Frm K B σ H' E1 (v :: xs) (.ow rs :: Xs) → Q v H') (l : Addr) (hl : H1 l = none) :
    ∃ W : Nat → Nat → SgT → Hp → Prop, (∃ m, W 0 m (slots js σ) (upd H1 l (.lst []))) ∧
  ∀ i m σ' H', W i m σ' H' → (J.stop i H' ∧ Q (.ref l) H') ∨ (J.go i H' ∧ ∃ N : SgT → Hp → Prop, (∀ σ' H', N σ' H' → ∃ m', m' < m ∧ W (i + 1) m' σ' H') ∧ ∀ x H2, J.yld i H' x H2 → rg K tg x σ' H2 fun σ3 H3 => tt σ3 H3 fun b H4 =>
    if b = true then rd K m3 el σ3 H4 fun y H5 => ∃ ys, H5 l = some (.lst ys) ∧ ys.length < sizeLine ∧ N σ3 (upd H5 l (.lst (ys ++ [y]))) else N σ3 H4) := by
  have fr0 := (slots_fr fr1 js).newl (ds := []) .nil hl
  refine ⟨fun i mm σ' H' => mm = ds.length - i ∧ i ≤ ds.length ∧ ∃ Ei acc rest, cLoop tg cond el (ds.drop i) Ei = some rest ∧ rs = acc ++ rest ∧ Frm K H1 σ' H' Ei [.ref l] [.ow acc], ⟨ds.length, by simp, Nat.zero_le _, _, [], rs, by simpa using e2, rfl, ⟨_, _, fr0⟩⟩, ?_⟩
  rintro i mm σ' H' ⟨rfl, hi, Ei, acc, rest, ei, er, F', A', fri⟩
  obtain ⟨go, stop⟩ := ok i B2 fri
  by_cases hlt : i < ds.length
  · obtain ⟨d, ed⟩ : ∃ d, ds[i]? = some d := ⟨ds[i], List.getElem?_eq_getElem hlt⟩
    obtain ⟨g1, yl⟩ := go d ed
    have edr : ds.drop i = d :: ds.drop (i + 1) := by
      rw [List.drop_eq_getElem_cons hlt]
      congr 1
      exact Option.some.inj ((List.getElem?_eq_getElem hlt).symm.trans ed)
    rw [edr] at ei
    obtain ⟨E3, e3, ei⟩ := Option.bind_eq_some_iff.mp ei
    obtain ⟨⟨b, E4⟩, e4, ei⟩ := Option.bind_eq_some_iff.mp ei
    refine .inr ⟨g1, fun σ2 H2 => ∃ Ej acc rest, cLoop tg cond el (ds.drop (i + 1)) Ej = some rest ∧ rs = acc ++ rest ∧ Frm K H1 σ2 H2 Ej [.ref l] [.ow acc], fun σ2 H2 ⟨Ej, ac, rt, ej, er, frj⟩ => ⟨ds.length - (i + 1), by omega, rfl, hlt, Ej, ac, rt, ej, er, frj⟩, fun x H2 y => ?_⟩
    have clm : Calm [Sl.ow acc] := Calm.cons (fun s hs => absurd hs (by simp)) rfl
    refine ⟨H1, Ei, [.ref l], [.ow acc], d, E3, yl x H2 y, (fun s hs => by rw [List.mem_singleton.mp hs]; rfl), e3, fun σ3 H3 fr3 => htt _ _ _ ?_⟩
    refine ⟨H1, E3, [.ref l], [.ow acc], b, E4, fr3, fun _ => clm, e4, fun H4 fr4 => ?_⟩
    cases b with
    | false =>
      rw [if_neg (by decide)]
      exact ⟨E4, acc, rest, ei, er, fr4⟩
    | true =>
      rw [if_pos rfl]
      obtain ⟨⟨s5, E5⟩, e5, ei⟩ := Option.bind_eq_some_iff.mp ei
      obtain ⟨⟨d6, E6⟩, e6, ei⟩ := Option.bind_eq_some_iff.mp ei
      obtain ⟨rest', e7, ei⟩ := Option.map_eq_some_iff.mp ei
      subst ei
      refine ⟨H1, E4, [.ref l], [.ow acc], s5, E5, fr4, fun _ => clm, e5, fun y5 H5 ⟨F5, A5, fr5⟩ => ?_⟩
      obtain ⟨F6, A6, fr6⟩ := fr5.frz0 e6
      obtain ⟨v', C1, ev, rfl, w, ew, ry⟩ := fr6.ext (k := 0) rfl
      cases ev; cases ew
      obtain ⟨A7, fr7⟩ := fr6.pop
      -- the list under way is the one part that owns
      obtain ⟨bf, fh, tf, sl, nd, frn, len, pl⟩ := fr7
      generalize hT : List.map some [V.ref l] ++ σ3 = T at sl
      generalize hS : [Sl.ow acc] ++ E6 = S at sl
      cases sl with
      | nil => cases hS
      | cons q0 r0 =>
        injection hT with h1 hT
        injection hS with h2 hS
        subst h1 h2 hT hS
        obtain ⟨l', us, el, rfl, hl5, ru⟩ := q0
        cases el
        have lu := ru.len
        refine ⟨us, hl5, small (by rw [er] at hc; simp at hc; omega), E6, acc ++ [d6], rest', e7, by rw [er]; simp, F6, _, bf, fun b o qb => ?_, ?_, .cons (A := [l]) ⟨l, us ++ [y5], rfl, rfl, upd_same, ru.snoc ry⟩ (r0.mono fun o s C hs hC qq => qq.stay (Same.refl _) (fun b hb => upd_ne fun z => ?_) fun z => ?_), nd, frn, rfl, pl⟩
        · have lF : F6 l = none := frn l (by simp)
          rw [upd_ne (fun z => by rw [z, lF] at qb; cases qb)]
          exact fh _ _ qb
        · rw [tups_upd hl5]; exact tf
        · have := hC b hb
          rw [z] at this
          exact (List.nodup_cons.mp nd).1 this
        · have := pl s hs
          cases s <;> simp [Sl.isAl, Sl.isBr] at this z
  · have e0 : i = ds.length := by omega
    refine .inl ⟨stop e0, ?_⟩
    rw [e0, List.drop_length] at ei
    cases ei
    rw [List.append_nil] at er
    subst er
    obtain ⟨g1, g2⟩ := fri.result hc.1
    exact q _ _ (fr1.told g1 g2)
theorem rd_comp {m m2 m3 : Bool} {it : PDv} {tg : PGv} {cond : PTv} {el : PEv} {tt : TT} (htt : ∀ σ H Q, rt K m2 cond σ H Q → tt σ H Q) {σ : SgT} {H : Hp} {Q : VK} (z : rd K m (pComp js it tg cond el) σ H Q) : tComp js (ri K m it) (rg K tg) tt (rd K m3 el) σ H Q := by
  obtain ⟨B, E, xs, Xs, res, E', fr, cl, e, q⟩ := z
  obtain ⟨⟨ds, E1⟩, e1, e⟩ := Option.bind_eq_some_iff.mp e
  obtain ⟨rs, e2, e⟩ := Option.bind_eq_some_iff.mp e
  simp only at e
  split at e
  · rename_i hc
    cases e
    simp only [Bool.and_eq_true, decide_eq_true_eq] at hc
    exact ⟨B, E, xs, Xs, ds, _, fr, cl, e1, fun B' J H1 hB ⟨F, A, fr1⟩ ok l hl => comp_core htt (fr1.base hB) (fr1.bf.trans fr1.fh) ok e2 hc q l hl⟩
  · cases e
theorem xe_comp0 {m m3 : Bool} {it : PDv} {tg : PGv} {el : PEv} (C : CompOk X scope sc cl N js) (hc : X.calm = true) (hi : IX X target iter m it) (hg : ∀ C s₀ H₀ fp, GX (X.comp sc cl N C s₀ H₀ fp) target tg) (he : ∀ C s₀ H₀ fp, EX (X.comp sc cl N C s₀ H₀ fp) elt m3 el)
    (hs : ∀ x, foldedSetIterable iter X.env x = pure x := by intro _; rfl) : EX X (.ListComp elt [⟨target, iter, [], 0⟩] scope pos) m (pComp js it tg tYesP el) :=
  pe_imp (pe_comp (g := rg X.K tg) (te := rd X.K m3 el) C hc hi hg (fun _ _ _ _ => pts_nil) he hs) fun σ H Q z => rd_comp (m2 := false) (fun σ H Q z => by
    obtain ⟨B, E, xs, Xs, b, E', fr, cl, e, q⟩ := z
    cases e
    exact q _ fr) z
theorem xe_comp1 {c : Expr} {m m2 m3 : Bool} {it : PDv} {tg : PGv} {cond : PTv} {el : PEv} (C : CompOk X scope sc cl N js) (hc : X.calm = true) (hi : IX X target iter m it) (hg : ∀ C s₀ H₀ fp, GX (X.comp sc cl N C s₀ H₀ fp) target tg) (ht : ∀ C s₀ H₀ fp, TX (X.comp sc cl N C s₀ H₀ fp) c m2 cond) (he : ∀ C s₀ H₀ fp, EX (X.comp sc cl N C s₀ H₀ fp) elt m3 el)
    (hs : ∀ x, foldedSetIterable iter X.env x = pure x := by intro _; rfl) : EX X (.ListComp elt [⟨target, iter, [c], 0⟩] scope pos) m (pComp js it tg cond el) :=
  pe_imp (pe_comp (g := rg X.K tg) (te := rd X.K m3 el) (tt := rt X.K m2 cond) C hc hi hg (fun _ _ _ _ => pts_one (ht _ _ _ _)) he hs) fun σ H Q z => rd_comp (m2 := m2) (fun _ _ _ z => z) z
end
end PL
namespace PL
open PySem L2 Nh
noncomputable def keyOf : PyData → Option Key
  | .int i => some (.inl i)
  | .str x => some (.inr x)
  | _ => none
noncomputable def keysOf : List (PyData × PyData) → Option (List Key)
  | [] => some []
  | p :: r => (keyOf p.1).bind fun k => (keysOf r).map fun ks => k :: ks
end PL
namespace PL
open PySem L2 Nh
section
variable {X : Cx} {elt target iter : Expr} {ifs : List Expr} {scope sc : Scope} {cl : List (Str × Addr)} {N : List Str} {pos : Pos} {js : List (Option Nat)} {K : PySem.W.Frag}
theorem SAll.split {P : Option V → Sl → List Addr → Prop} : ∀ {os os' : List (Option V)} {ss ss' : List Sl} {A : List Addr}, os.length = ss.length → SAll P (os ++ os') (ss ++ ss') A → ∃ A1 A2, A = A1 ++ A2 ∧ SAll P os ss A1 ∧ SAll P os' ss' A2
  | [], _, [], _, A, _, h => ⟨[], A, rfl, .nil, h⟩
  | o :: os, _, s :: ss, _, _, l, .cons h r => by
    obtain ⟨A1, A2, rfl, h1, h2⟩ := SAll.split (os := os) (ss := ss) (by simpa using l) r
    exact ⟨_, A2, by rw [List.append_assoc], .cons h h1, h2⟩
  | [], _, _ :: _, _, _, l, _ => by simp at l
  | _ :: _, _, [], _, _, l, _ => by simp at l
end
end PL
namespace PL
open PySem L2 Nh
theorem rs_set {K : PySem.W.Frag} {m : Bool} {i : Nat} {f : PEv} {D : Ends} {σ : SgT} {H : Hp} (z : rs K (pSet i f) D σ H) : rd K m f σ H fun v H1 => gName i v σ H1 D.nx := by
  obtain ⟨B, E, xs, Xs, E', fl, fr, cl, e, q⟩ := z
  obtain ⟨⟨s, E1⟩, e1, e⟩ := Option.bind_eq_some_iff.mp e
  obtain ⟨⟨s', E2⟩, e2, e⟩ := Option.bind_eq_some_iff.mp e
  refine ⟨B, E, xs, Xs, s, E1, fr, fun _ => Calm.nil cl, e1, fun v H1 ⟨F, A, fr1⟩ => ?_⟩
  obtain ⟨c1, F2, A2, fr2⟩ := fr1.settle cl e2
  simp only at e
  split at e
  · rename_i hi
    cases e
    obtain ⟨A3, fr3⟩ := fr2.store c1 (Still.nil cl) hi
    exact q _ _ ⟨F2, A3, fr3⟩
  · cases e
section
variable {X : Cx} {elt target iter : Expr} {scope sc : Scope} {cl : List (Str × Addr)} {N : List Str} {pos spos px : Pos} {js : List (Option Nat)} {x : Str}
theorem xs_setC1 {c : Expr} {m m2 m3 : Bool} {it : PDv} {tg : PGv} {cond : PTv} {el : PEv} (i : Nat) (hN : X.N.Nodup) (C : CompOk X scope sc cl N js) (hc : X.calm = true) (h : IX X target iter m it) (hg : ∀ C s₀ H₀ fp, GX (X.comp sc cl N C s₀ H₀ fp) target tg) (ht : ∀ C s₀ H₀ fp, TX (X.comp sc cl N C s₀ H₀ fp) c m2 cond) (he : ∀ C s₀ H₀ fp, EX (X.comp sc cl N C s₀ H₀ fp) elt m3 el)
    (hi : X.N[i]? = some x := by rfl) (hx : Loc X.env.scope x := by first | exact Or.inl rfl | exact Or.inr rfl) (hf : X.fn x = true ∨ X.env.scope.names.lookup x = some .local := by first | exact .inl rfl | exact .inr rfl | assumption)
    (hs : ∀ x, foldedSetIterable iter X.env x = pure x := by intro _; rfl) (hsw : swapsWith (.ListComp elt [⟨target, iter, [c], 0⟩] scope pos) (some (.Name x px)) spos.line X.env = pure true := by rfl) :
    SX X (.Assign [.Name x px] (.ListComp elt [⟨target, iter, [c], 0⟩] scope pos) spos) (pSet i (pComp js it tg cond el)) :=
  ps_imp (ps_comp (g := rg X.K tg) (te := rd X.K m3 el) (tt := rt X.K m2 cond) C hc (pg_name hN hi hx hf) h hg (fun _ _ _ _ => pts_one (ht _ _ _ _)) he hs hsw) fun D σ H z => rd_comp (m2 := m2) (fun _ _ _ z => z) (rs_set z)
end
noncomputable def intC : Const → Option Int
  | .int i => some i
  | _ => none
noncomputable def intE : Expr → Option Int
  | .Constant c _ _ => intC c
  | _ => none
noncomputable def intConsts : List Expr → Option (List Int)
  | [] => some []
  | e :: r => (intE e).bind fun i => (intConsts r).map (i :: ·)
noncomputable def dInts (ns : List Int) : PDv := fun E => some (ns.map .int, E)
theorem intE_c {e : Expr} {i : Int} (h : intE e = some i) : ∃ k p, e = .Constant (.int i) k p := by
  unfold intE at h
  split at h
  · unfold intC at h
    split at h
    · cases h; exact ⟨_, _, rfl⟩
    · cases h
  · cases h
theorem xd_ints {X : Cx} : ∀ {es : List Expr} {ns : List Int}, intConsts es = some ns → DX X es false (dInts ns)
  | [], ns, h => by cases h; exact xd_nil
  | e :: es, ns, h => by
    obtain ⟨i, h0, h⟩ := Option.bind_eq_some_iff.mp h
    obtain ⟨ms, h1, h⟩ := Option.map_eq_some_iff.mp h
    subst h
    obtain ⟨k, p, rfl⟩ := intE_c h0
    exact xd_cons (m1 := false) (m2 := false) xe_int (xd_ints h1) rfl
noncomputable def getL (body : List Stmt) (k : Nat) : List Expr := match body[k]? with
  | some (.Assign _ (.Subscript (.List es _) _ _) _) => es
  | _ => []
noncomputable def setL (es : List Expr) : Stmt → Stmt
  | .Assign t (.Subscript (.List _ p) i q) r => .Assign t (.Subscript (.List es p) i q) r
  | s => s
noncomputable def putL (es : List Expr) : Nat → List Stmt → List Stmt
  | _, [] => []
  | 0, s :: r => setL es s :: r
  | k + 1, s :: r => s :: putL es k r
theorem cut_consts {X : Cx} {body : List Stmt} {g : PSv} (k : Nat) (ns : List Int) (h : intConsts (getL body k) = some ns) (hb : putL (getL body k) k body = body) (key : ∀ es, intConsts es = some ns → SSX X (putL es k body) g) : SSX X body g := by
  have := key _ h
  rw [hb] at this
  exact this
end PL
namespace PL
open PySem L2 Nh
theorem atI_nat' {α : Type} (xs : List α) (k : Nat) : atI xs (k : Int) = xs[k]? := by
  unfold atI ixN
  rw [if_pos (by omega)]
  split
  · simp
  · rw [List.getElem?_eq_none (by omega)]; rfl
theorem atI_lst {α : Type} (l : List α) (a : α) : atI (l ++ [a]) (-1) = some a := by
  unfold atI ixN
  rw [if_neg (by omega), if_pos (by simp; omega)]
  have e : (-1 + (((l ++ [a]).length : Nat) : Int)).toNat = l.length := by simp; omega
  rw [e]
  simp
theorem atI_nn {α : Type} {xs : List α} {i : Int} (h : 0 ≤ i) : atI xs i = xs[i.toNat]? := by
  have e : i = ((i.toNat : Nat) : Int) := by omega
  rw [e, atI_nat', Int.toNat_natCast]
theorem rngD_succ (lo : Int) (n : Nat) : rngD lo (n + 1) = .int lo :: rngD (lo + 1) n := by
  unfold rngD
  rw [List.range_succ_eq_map, List.map_cons, List.map_map]
  simp only [Int.natCast_zero, Int.add_zero]
  congr 1
  refine List.map_congr_left fun k _ => ?_
  show PyData.int (lo + ((k + 1 : Nat) : Int)) = PyData.int (lo + 1 + (k : Int))
  congr 1
  omega
end PL
namespace L2
open PySem PySem.Spec PyProof.Rows
section
variable {X : Cx} {pins : List (Addr × Obj)} {σ : L2.St} {H : Hp} {s : Shared} {h' : Heap}
theorem Inv.turnedL {t' : Nat} {fp : List Addr} (I : Inv X pins σ H s) (k : ∀ b o, b ∉ fp → s.heap.get? b = some o → h'.get? b = some o) (hf : ∀ b ∈ fp, FpOk X pins H b) : Inv X pins σ H { s with heap := h', toks := t' } := by
  have nit : ∀ b u, H b = some u → b ∉ fp := fun b u e z => by rw [(hf b z).1] at e; cases e
  refine I.step (g' := s.gens) (d' := s.drawn) (ch := fp) (fun b hb => ?_) (fun b o _ _ hc e _ => k b o hc e) (fun b o _ _ hc e _ => ⟨o.slots, k b o hc e⟩) (fun _ _ _ _ n => n)
    (fun b o hc e => ⟨o, k b o hc e⟩) (fun _ _ e => e) (fun _ _ _ e => e) (fun _ _ e => e) (fun m hm => ?_) (fun b u e => ?_) I.bare
  · obtain ⟨f0, f1, f2, f3, f4, f5⟩ := hf b hb
    exact ⟨f3, f1, f4, f5⟩
  · obtain ⟨o, es, ep, ho, r⟩ := hm
    exact ⟨o, es, ep, k _ o (fun z => (hf _ z).2.1 rfl) ho, r⟩
  · refine (I.hok b u e).stay (fun c v hc q => k c v ?_ q) (fun _ q => q) fun _ _ q => q
    rcases hc with z | z
    · rw [z]; exact nit b u e
    · exact nit c _ z
theorem pushed_old {h : Heap} {o o' : Obj} {c : Addr} (hc : c ≠ h.objs.size) (e : (h.push o').get? c = some o) : h.get? c = some o := (Heap.get?_push_cases e).elim (fun z => absurd z.1 hc) id
theorem tup_laid {t' : Nat} {us : List Value} {vs : List V} (I : Inv X pins σ H s) (r : Vals vs us) (hz : vs.length ≤ sizeLine) :
    Inv X pins σ (upd H s.heap.objs.size (.tup vs)) { s with heap := s.heap.push { cls := .type "tuple", data := .seq us.toArray }, toks := t' } :=
  I.laid (fun b u e => Heap.get?_push_of_some _ e) (Nat.le_refl _) ⟨hz, us, r, ⟨_, Heap.get?_push_size _ rfl, rfl, _, rfl⟩⟩
end
noncomputable def Itz (K : PySem.W.Frag) (a b : Addr) (xs ys : List V) : It :=
  ⟨fun i H => SqL K H a xs ∧ SqL K H b ys ∧ i < xs.length ∧ i < ys.length, fun i H x H' => ∃ T u v, H T = none ∧ xs[i]? = some u ∧ ys[i]? = some v ∧ x = .ref T ∧ H' = upd H T (.tup [u, v]),
   fun i H => SqL K H a xs ∧ SqL K H b ys ∧ i = min xs.length ys.length⟩
theorem turn_zip {P : Program} {w : World} {K : PySem.W.Frag} {elts : List Expr} {k : Nat} {pos : Pos} {z TI TO i1 i2 a b : Addr} (D : ZipApart z TI TO i1 i2 a b) (xs ys : List V) : Turn P w K (.Tuple elts k pos) (Itz K a b xs ys) [z, TI, TO, i1, i2] z
    (fun i h => IsZip h z TI TO .none ∧ IsPair h TI (.ref i1) (.ref i2) ∧ (∃ a b, IsPair h TO a b) ∧ h.IsListIter i1 a i ∧ h.IsListIter i2 b i) where
  mem := by simp
  obj := fun i h st c hc => by
    obtain ⟨h1, h2, ⟨x, y, h3⟩, ⟨o4, h4, _, d4⟩, ⟨o5, h5, _, d5⟩⟩ := st
    simp only [List.mem_cons, List.not_mem_nil, or_false] at hc
    rcases hc with rfl | rfl | rfl | rfl | rfl
    · exact ⟨_, h1, fun v z => by cases z⟩
    · exact ⟨_, h2, fun v z => by cases z⟩
    · exact ⟨_, h3, fun v z => by cases z⟩
    · exact ⟨_, h4, fun v z => by rw [d4] at z; cases z⟩
    · exact ⟨_, h5, fun v z => by rw [d5] at z; cases z⟩
  keep := fun i h h' st kk => by
    obtain ⟨h1, h2, ⟨x, y, h3⟩, h4, h5⟩ := st
    exact ⟨kk z (by simp) _ h1, kk TI (by simp) _ h2, ⟨x, y, kk TO (by simp) _ h3⟩, h4.at fun o e => kk i1 (by simp) o e, h5.at fun o e => kk i2 (by simp) o e⟩
  item := by
    intro X hP hw hK hc i pins s σ H E I hf st hg
    subst hP hw hK
    obtain ⟨h1, h2, ⟨x, y, h3⟩, h4, h5⟩ := st
    obtain ⟨q1, q2, l1, l2⟩ := hg
    obtain ⟨its, rv, p, hz⟩ := I.list q1
    obtain ⟨its2, rv2, p2, hz2⟩ := I.list q2
    obtain ⟨u, hu⟩ : ∃ u, xs[i]? = some u := ⟨xs[i], List.getElem?_eq_getElem l1⟩
    obtain ⟨v, hv⟩ : ∃ v, ys[i]? = some v := ⟨ys[i], List.getElem?_eq_getElem l2⟩
    obtain ⟨u', hu', ru⟩ := rv.get hu
    obtain ⟨v', hv', rv'⟩ := rv2.get hv
    refine wpAny_pyNext_zip_item D h1 h2 h3 h4 h5 p.isList p2.isList (by simpa using hu') (by simpa using hv') fun h' a1 a2 a3 a4 a5 a6 hk => ?_
    have I0 := tup_laid (t' := s.toks) I (us := [u', v']) (vs := [u, v]) (.cons ru (.cons rv' .nil)) (by show 2 ≤ sizeLine; decide)
    have hT : ∀ c ∈ [z, TI, TO, i1, i2], c ≠ s.heap.objs.size := fun c hc ZE => by
      have : c < s.heap.objs.size := by
        simp only [List.mem_cons, List.not_mem_nil, or_false] at hc
        rcases hc with rfl | rfl | rfl | rfl | rfl
        · exact Heap.lt_size h1
        · exact Heap.lt_size h2
        · exact Heap.lt_size h3
        · obtain ⟨o, q, _⟩ := h4; exact Heap.lt_size q
        · obtain ⟨o, q, _⟩ := h5; exact Heap.lt_size q
      rw [ZE] at this; exact Nat.lt_irrefl _ this
    have hf2 : ∀ c ∈ [z, TI, TO, i1, i2], FpOk X pins (upd H s.heap.objs.size (.tup [u, v])) c := fun c hc => by
      obtain ⟨f0, f⟩ := hf c hc
      exact ⟨by rw [upd_ne (hT c hc)]; exact f0, f⟩
    have I1 := I0.turnedL (h' := h') (t' := s.toks) (fp := [z, TI, TO, i1, i2]) (fun c o hc e => by
      simp only [List.mem_cons, List.not_mem_nil, or_false, not_or] at hc
      by_cases ec : c = s.heap.objs.size
      · subst ec
        rw [Heap.get?_push_size _ rfl] at e
        cases e
        exact a5
      · have e' : s.heap.get? c = some o := by
          exact pushed_old ec e
        exact hk c o hc.1 hc.2.2.1 hc.2.2.2.1 hc.2.2.2.2 e') hf2
    refine ⟨_, rfl, wpAny_letOwnedTupleGo_zip (s := { s with heap := h' }) a1 fun h'' z'' s'' => ?_⟩
    have I2 := I1.turnedL (h' := h'') (t' := s.toks) (fp := [z, TI, TO, i1, i2]) (fun c o hc e => (s''.2 c fun e' => hc (by simp [e'])).trans e) hf2
    refine ⟨.ref s.heap.objs.size, _, I2, rfl, ⟨_, u, v, I.hok.fresh (Nat.le_refl _), hu, hv, rfl, rfl⟩, ⟨z'', ?_, ⟨_, _, s''.extBut _ _ D.TOz a2⟩, a3.extBut s''.extBut D.i1z, a4.extBut s''.extBut D.i2z⟩, fun c hc => (hf2 c hc).1⟩
    exact s''.extBut _ _ D.TIz (hk _ _ D.TIz D.TITO D.TIi1 D.TIi2 h2)
  done := by
    intro X hP hw hK hc i pins s σ H E I hf st hg
    subst hP hw hK
    obtain ⟨h1, h2, ⟨x, y, h3⟩, h4, h5⟩ := st
    obtain ⟨q1, q2, hi⟩ := hg
    obtain ⟨its, rv, p, hz⟩ := I.list q1
    obtain ⟨its2, rv2, p2, hz2⟩ := I.list q2
    have n1 := rv.length
    have n2 := rv2.length
    refine wpAny_pyNext_zip_end (I.ok.hd hc) D h1 h2 h3 h4 h5 p.isList p2.isList ?_ fun h' hk => ⟨rfl, I.turnedL (t' := s.toks) (fp := [z, TI, TO, i1, i2]) (fun c o hc e => ?_) hf⟩
    · rcases Nat.le_total xs.length ys.length with h | h
      · exact .inl (Array.getElem?_eq_none (by rw [List.size_toArray]; omega))
      · exact .inr (Array.getElem?_eq_none (by rw [List.size_toArray]; omega))
    · simp only [List.mem_cons, List.not_mem_nil, or_false, not_or] at hc
      exact hk c o hc.1 hc.2.2.1 hc.2.2.2.1 hc.2.2.2.2 e
  self := fun _ _ _ _ _ st h => wpAny_pyIter_zip st.1 h
noncomputable def iZip (K : PySem.W.Frag) (tl : TA) : TI := fun σ H R => tl σ H fun vs H1 => ∃ a b xs ys, vs = [.ref a, .ref b] ∧ SqL K H1 a xs ∧ SqL K H1 b ys ∧ R (Itz K a b xs ys) H1
section
variable {X : Cx} {elts : List Expr} {kt : Nat} {pt : Pos}
theorem pi_zip {l l2 : Expr} {tl : TA} {p pos : Pos} (hg : Gl X "zip") (hm : X.mg "zip" = none) (ha : PA X [l, l2] tl) (hs : starEach [l, l2] X.env = (false, eval l X.env) :: starEach [l2] X.env := by rfl) (hs2 : starEach [l2] X.env = [(false, eval l2 X.env)] := by rfl) : PI X (.Tuple elts kt pt) (.Call (.Name "zip" p) [l, l2] [] pos) (iZip X.K tl) := by
  intro pins s σ H R I h
  refine Call_ (ld_blt I hg hm boot_zip (PyProof.Rows.callWith_type1 (thn (ha pos pins s σ H _ I h) fun us s1 ⟨vs, H1, I1, r1, q1⟩ => ?_) hs (by rw [hs2]; rfl)))
  obtain ⟨a, b, xs, ys, e, hq, hq2, q⟩ := q1
  subst e
  obtain ⟨u, v, rfl, ru, rv⟩ := r1.two
  cases ru; cases rv
  obtain ⟨its, rva, p1, hz⟩ := I1.list hq
  obtain ⟨its2, rvb, p2, hz2⟩ := I1.list hq2
  have la : a < s1.heap.objs.size := by obtain ⟨_, e, _⟩ := p1.isList; exact Heap.lt_size e
  have lb : b < s1.heap.objs.size := by obtain ⟨_, e, _⟩ := p2.isList; exact Heap.lt_size e
  refine call_zip_2 p1.isList p2.isList fun h' z1 z2 z3 z4 z5 z6 hk => ?_
  have I2 : Inv X pins σ H1 { s1 with heap := h' } := I1.kept (t' := s1.toks) hk
  refine wpAny_pyIter_zip (s := { s1 with heap := h' }) z1 ⟨_, [_, _, _, _, _], _, _, H1, rfl, I2, turn_zip (zipApart_new la lb) xs ys, ⟨z1, z2, ⟨_, _, z3⟩, z4, z5⟩, fun c hc => ?_, q⟩
  have le : s1.heap.objs.size ≤ c := by
    simp only [List.mem_cons, List.not_mem_nil, or_false] at hc
    rcases hc with rfl | rfl | rfl | rfl | rfl
    · exact Nat.le_add_right _ 4
    · exact Nat.le_add_right _ 2
    · exact Nat.le_add_right _ 3
    · exact Nat.le_refl _
    · exact Nat.le_add_right _ 1
  exact I1.fpOk le (I1.hok.fresh le)
end
noncomputable def Its (x : Str) : It := ⟨fun i _ => i < x.cps.toList.length, fun i H v H' => H' = H ∧ ∃ c, x.cps.toList[i]? = some c ∧ v = .str ⟨#[c]⟩, fun i _ => i = x.cps.toList.length⟩
theorem turn_str {P : Program} {w : World} {K : PySem.W.Frag} {tg : Expr} {it : Addr} {T : String} {x : Str} {t : Tok} (hT : T = "str_ascii_iterator" ∨ T = "str_iterator") : Turn P w K tg (Its x) [it] it (fun i h => h.IsStrIter it T x t i) where
  mem := by simp
  obj := fun i h st b hb => by
    have e : b = it := by simpa using hb
    subst e
    obtain ⟨o, e, c, d⟩ := st
    exact ⟨o, e, fun v z => by rw [d] at z; cases z⟩
  keep := fun i h h' st k => let ⟨o, ho, r⟩ := st; ⟨o, k it (by simp) o ho, r⟩
  item := by
    intro X hP hw hK hc i pins s σ H E I hf st hg
    subst hP hw hK
    obtain ⟨f0, f1, f2, f3, f4, f5⟩ := hf it (by simp)
    have hi : i < x.cps.toList.length := hg
    have hx : x.cps[i]? = some (x.cps.toList[i]'hi) := by simp at hi; simp [hi]
    have fin : ∀ (h' : Heap), h'.IsStrIter it T x t (i + 1) → Heap.SameBut it s.heap h' → ∃ u, some (Value.str ⟨#[x.cps.toList[i]'hi]⟩ s.toks) = some u ∧
        wpAny (model X.prog X.w) X.A (letOwnedTupleGo tg (.ref it) u) (fun _ s2 => ∃ v H', Inv X pins σ H' s2 ∧ RelV v u ∧ (Its x).yld i H v H' ∧ s2.heap.IsStrIter it T x t (i + 1) ∧ ∀ b ∈ [it], H' b = none) E { s with heap := h', toks := s.toks + 1 } := fun h' st' sb => by
      have I1 : Inv X pins σ H { s with heap := h', toks := s.toks + 1 } := I.turned (t' := s.toks + 1) (fun b o hb e => (sb.2 b hb).trans e) f0 f1 f3 f4 f5
      obtain ⟨o, e, c, d⟩ := id st'
      exact ⟨_, rfl, go_of (s := { s with heap := h', toks := s.toks + 1 }) e c d (by rcases hT with rfl | rfl <;> decide) ⟨.str ⟨#[x.cps.toList[i]'hi]⟩, H, I1, ⟨_, rfl⟩, ⟨rfl, _, List.getElem?_eq_getElem hi, rfl⟩, st', fun b hb => (hf b hb).1⟩⟩
    rcases hT with rfl | rfl
    · exact wpAny_pyNext_ascii_item st hx fun h' st' sb => fin h' st' sb
    · exact wpAny_pyNext_wide_item st hx fun h' st' sb => fin h' st' sb
  done := by
    intro X hP hw hK hc i pins s σ H E I hf st hg
    subst hP hw hK
    obtain ⟨f0, f1, f2, f3, f4, f5⟩ := hf it (by simp)
    have hi : i = x.cps.toList.length := hg
    have hx : x.cps[i]? = none := by simp at hi; simp [hi]
    rcases hT with rfl | rfl
    · exact wpAny_pyNext_ascii_end (I.ok.hd hc) st hx fun h' eb => ⟨rfl, I.turned (t' := s.toks) (fun b o hb e => eb b o hb e) f0 f1 f3 f4 f5⟩
    · exact wpAny_pyNext_wide_end (I.ok.hd hc) st hx fun h' eb => ⟨rfl, I.turned (t' := s.toks) (fun b o hb e => eb b o hb e) f0 f1 f3 f4 f5⟩
  self := fun _ _ _ _ _ st h => by
    rcases hT with rfl | rfl
    · exact wpAny_pyIter_striter_ascii st h
    · exact wpAny_pyIter_striter_wide st h
noncomputable def iStr (tl : TE) : TI := fun σ H R => tl σ H fun v H1 => ∃ x, v = .str x ∧ R (Its x) H1
theorem pi_str {X : Cx} {tg l : Expr} {tl : TE} (hl : PE X l tl) : PI X tg l (iStr tl) := by
  intro pins s σ H R I h
  refine thn (hl pins s σ H _ I h) fun v s1 ⟨y, H1, I1, r1, q1⟩ => ?_
  obtain ⟨x, e, q⟩ := q1
  subst e
  obtain ⟨t, rfl⟩ := r1
  refine wpAny_pyIter_strU ?_
  refine ⟨s1.heap.objs.size, [s1.heap.objs.size], fun i h => h.IsStrIter s1.heap.objs.size (strIterType x) x t i, _, H1, rfl, I1.kept (t' := s1.toks) fun b o e => Heap.get?_push_of_some _ e, turn_str (t := t) ?_, ⟨_, Heap.get?_push_size _ rfl, rfl, rfl⟩, fun b hb => ?_, q⟩
  · unfold strIterType
    split
    · exact .inl rfl
    · exact .inr rfl
  · have e : b = s1.heap.objs.size := by simpa using hb
    subst e
    exact I1.fpOk (Nat.le_refl _) (I1.hok.fresh (Nat.le_refl _))
theorem PI.or {X : Cx} {tg l : Expr} {a b : TI} (h1 : PI X tg l a) (h2 : PI X tg l b) : PI X tg l (fun σ H R => a σ H R ∨ b σ H R) := by
  intro pins s σ H R I h
  rcases h with h | h
  · exact h1 pins s σ H R I h
  · exact h2 pins s σ H R I h
end L2
namespace PL
open PySem L2 Nh
noncomputable def zipD : List PyData → List PyData → List PyData
  | a :: as, b :: bs => .tuple [a, b] :: zipD as bs
  | _, _ => []
noncomputable def iZipP (f g : PEv) : PDv := fun E => (f E).bind fun a => (frz a.2 a.1).bind fun b => (g b.2).bind fun c => (frz c.2 c.1).bind fun d => match b.1, d.1 with
  | .list xs, .list ys => some (zipD xs ys, d.2)
  | _, _ => none
noncomputable def signsD (x : Str) : List PyData := x.cps.toList.map fun c => .str ⟨#[c]⟩
noncomputable def iAny (f : PEv) : PDv := fun E => (f E).bind fun a => (frz a.2 a.1).bind fun b => match b.1 with
  | .list ds => some (ds, b.2)
  | .tuple ds => some (ds, b.2)
  | .str x => some (signsD x, b.2)
  | _ => none
section
variable {X : Cx} {K : PySem.W.Frag} {B : Hp}
theorem zipD_get : ∀ {as bs : List PyData} {i : Nat} {d : PyData}, (zipD as bs)[i]? = some d → ∃ a b, as[i]? = some a ∧ bs[i]? = some b ∧ d = .tuple [a, b]
  | a :: as, b :: bs, 0, d, e => by simp [zipD] at e; exact ⟨a, b, rfl, rfl, e.symm⟩
  | a :: as, b :: bs, i + 1, d, e => by
    obtain ⟨x, y, h1, h2, h3⟩ := zipD_get (as := as) (bs := bs) (i := i) (by simpa [zipD] using e)
    exact ⟨x, y, by simpa using h1, by simpa using h2, h3⟩
  | [], _, _, _, e => by simp [zipD] at e
  | _ :: _, [], _, _, e => by simp [zipD] at e
theorem zipD_len : ∀ (as bs : List PyData), (zipD as bs).length = min as.length bs.length
  | a :: as, b :: bs => by simp [zipD, zipD_len as bs]
  | [], _ => by simp [zipD]
  | _ :: _, [] => by simp [zipD]
theorem itOk_zip {a b : Addr} {vs us : List V} {ds es : List PyData} (h : SqL K B a vs) (r : RpA K B vs ds) (h2 : SqL K B b us) (r2 : RpA K B us es) : ItOk K B (Itz K a b vs us) (zipD ds es) := fun {B' F A σ H E xs Xs} i sB fr => by
  have hH := fr.fh.seq (fr.bf.seq (sB.seq h))
  have hH2 := fr.fh.seq (fr.bf.seq (sB.seq h2))
  refine ⟨fun d ed => ?_, fun e => ⟨hH, hH2, by rw [e, zipD_len, r.len, r2.len]⟩⟩
  obtain ⟨x, y, ex, ey, rfl⟩ := zipD_get ed
  obtain ⟨v, ev, rv⟩ := r.get ex
  obtain ⟨u, eu, ru⟩ := r2.get ey
  refine ⟨⟨hH, hH2, (List.getElem?_eq_some_iff.mp ev).1, (List.getElem?_eq_some_iff.mp eu).1⟩, fun z H2 ⟨T, v', u', hT, e1, e2, e3, e4⟩ => ?_⟩
  rw [ev] at e1; cases e1
  rw [eu] at e2; cases e2
  subst e3 e4
  have s1 := sB.trans fr.bf
  exact ⟨_, _, fr.newt (.cons (rv.same s1) (.cons (ru.same s1) .nil)) hT⟩
theorem itOk_str {x : Str} : ItOk K B (Its x) (signsD x) := fun {B' F A σ H E xs Xs} i sB fr => by
  refine ⟨fun d ed => ?_, fun e => by show i = x.cps.toList.length; rw [e]; simp [signsD]⟩
  unfold signsD at ed
  rw [List.getElem?_map] at ed
  obtain ⟨c, ec, rfl⟩ := Option.map_eq_some_iff.mp ed
  refine ⟨(List.getElem?_eq_some_iff.mp ec).1, fun z H2 ⟨e1, c', e2, e3⟩ => ?_⟩
  rw [ec] at e2; cases e2
  subst e1 e3
  exact ⟨F, A, fr.push ⟨rfl, _, rfl, .str _⟩⟩
theorem itOk_tup {a : Addr} {vs : List V} {ds : List PyData} (h : SqT K B a vs) (r : RpA K B vs ds) : ItOk K B (Itt K a) ds := fun {B' F A σ H E xs Xs} i sB fr => by
  have hH := fr.fh.tup (fr.bf.tup (sB.tup h))
  refine ⟨fun d ed => ?_, fun e => ⟨vs, hH, by rw [e, r.len]; exact Nat.le_refl _⟩⟩
  obtain ⟨v, ev, rv⟩ := r.get ed
  refine ⟨⟨vs, v, hH, ev⟩, fun x H2 ⟨e2, y⟩ => ?_⟩
  subst e2
  have := y vs hH
  rw [ev] at this
  cases this
  exact ⟨F, A, fr.push ⟨rfl, _, rfl, rv.same (sB.trans fr.bf)⟩⟩
theorem xi_any {tg e : Expr} {m : Bool} {f : PEv} (he : EX X e m f) : IX X tg e m (iAny f) := pi_imp (PI.or (pi_list he) (PI.or (pi_tup he) (pi_str he))) fun σ H R z => by
  obtain ⟨B, E, xs, Xs, ds, E', fr, cl, e, q⟩ := z
  obtain ⟨⟨s, E1⟩, e1, e⟩ := Option.bind_eq_some_iff.mp e
  obtain ⟨⟨d, E2⟩, e2, e⟩ := Option.bind_eq_some_iff.mp e
  have key : ∀ (v : V) (H1 : Hp), Frm X.K B σ H1 E1 (v :: xs) (s :: Xs) → ∃ F2 A2 A3, Rp X.K F2 v d ∧ Same B F2 ∧ FrF X.K F2 F2 A3 σ H1 E2 xs Xs ∧ FrF X.K B F2 A2 σ H1 E2 (v :: xs) (.sh d :: Xs) := fun v H1 ⟨F, A, fr1⟩ => by
    obtain ⟨F2, A2, fr2⟩ := fr1.frz0 e2
    obtain ⟨v', A1, ev, rfl, w, ew, r⟩ := fr2.ext (k := 0) rfl
    cases ev; cases ew
    obtain ⟨A3, fr3⟩ := fr2.pop
    exact ⟨F2, A2, A3, r, fr2.bf, fr3.raise, fr2⟩
  simp only at e
  split at e
  · cases e
    refine .inl ⟨B, E, xs, Xs, s, E1, fr, cl, e1, fun v H1 fr1 => ?_⟩
    obtain ⟨F2, A2, A3, r, sb, fr3, fr2⟩ := key v H1 fr1
    cases r with
    | lst h1 h2 => exact ⟨_, rfl, ⟨_, fr2.fh.seq h1⟩, q F2 _ _ sb ⟨F2, A3, fr3⟩ (itOk_list h1 h2)⟩
  · cases e
    refine .inr (.inl ⟨B, E, xs, Xs, s, E1, fr, cl, e1, fun v H1 fr1 => ?_⟩)
    obtain ⟨F2, A2, A3, r, sb, fr3, fr2⟩ := key v H1 fr1
    cases r with
    | tup h1 h2 => exact ⟨_, rfl, ⟨_, fr2.fh.tup h1⟩, q F2 _ _ sb ⟨F2, A3, fr3⟩ (itOk_tup h1 h2)⟩
  · cases e
    refine .inr (.inr ⟨B, E, xs, Xs, s, E1, fr, cl, e1, fun v H1 fr1 => ?_⟩)
    obtain ⟨F2, A2, A3, r, sb, fr3, fr2⟩ := key v H1 fr1
    cases r
    exact ⟨_, rfl, q F2 _ _ sb ⟨F2, A3, fr3⟩ itOk_str⟩
  · cases e
theorem xi_zip {elts : List Expr} {kt : Nat} {pt p pos : Pos} {e e2 : Expr} {m m2 : Bool} {f g : PEv} (hg : Gl X "zip") (hm : X.mg "zip" = none) (he : EX X e m f) (he2 : EX X e2 m2 g) (hs : starEach [e, e2] X.env = (false, eval e X.env) :: starEach [e2] X.env := by rfl) (hs2 : starEach [e2] X.env = [(false, eval e2 X.env)] := by rfl) : IX X (.Tuple elts kt pt) (.Call (.Name "zip" p) [e, e2] [] pos) (m || m2) (iZipP f g) := pi_imp (pi_zip hg hm (pa_cons he (pa_cons he2 pa_nil hs2) hs) hs hs2) fun σ H R z => by
  obtain ⟨B, E, xs, Xs, ds, E', fr, cl, e, q⟩ := z
  obtain ⟨⟨s, E1⟩, e1, e⟩ := Option.bind_eq_some_iff.mp e
  obtain ⟨⟨d, E2⟩, e2, e⟩ := Option.bind_eq_some_iff.mp e
  obtain ⟨⟨s3, E3⟩, e3, e⟩ := Option.bind_eq_some_iff.mp e
  obtain ⟨⟨d4, E4⟩, e4, e⟩ := Option.bind_eq_some_iff.mp e
  refine ⟨B, E, xs, Xs, s, E1, fr, fun z => cl (by simp [z]), e1, fun v H1 ⟨F, A, fr1⟩ => ?_⟩
  obtain ⟨F2, A2, fr2⟩ := fr1.frz0 e2
  refine ⟨B, E2, v :: xs, .sh d :: Xs, s3, E3, ⟨F2, A2, fr2⟩, fun z => Calm.cons (cl (by simp [z])) rfl, e3, fun v3 H3 ⟨F3, A3, fr3⟩ => ?_⟩
  obtain ⟨F4, A4, fr4⟩ := fr3.frz0 e4
  simp only at e
  split at e
  · cases e
    obtain ⟨v', A1, ev, rfl, w, ew, r⟩ := fr4.ext (k := 0) rfl
    cases ev; cases ew
    obtain ⟨v', A1, ev, rfl, w, ew, r2⟩ := fr4.ext (k := 1) rfl
    cases ev; cases ew
    cases r with
    | lst h1 h2 =>
      cases r2 with
      | lst h3 h4 =>
        obtain ⟨A5, fr5⟩ := fr4.pop
        obtain ⟨A6, fr6⟩ := fr5.pop
        exact ⟨_, _, _, _, rfl, fr4.fh.seq h3, fr4.fh.seq h1, q F4 _ _ fr4.bf ⟨F4, A6, fr6.raise⟩ (itOk_zip h3 h4 h1 h2)⟩
  · cases e
end
end PL
namespace PL
open PySem L2 Nh
inductive Cm where
  | lt | le | gt | ge
noncomputable def Cm.op : Cm → CmpOp
  | .lt => .Lt
  | .le => .LtE
  | .gt => .Gt
  | .ge => .GtE
noncomputable def Cm.i : Cm → Int → Int → Bool
  | .lt, i, j => decide (i < j)
  | .le, i, j => decide (i ≤ j)
  | .gt, i, j => decide (j < i)
  | .ge, i, j => decide (j ≤ i)
noncomputable def Cm.s : Cm → List Nat → List Nat → Bool
  | .lt, i, j => decide (i < j)
  | .le, i, j => !decide (j < i)
  | .gt, i, j => decide (j < i)
  | .ge, i, j => !decide (i < j)
noncomputable def dCmp (c : Cm) : PyData → PyData → Option PyData
  | .int i, .int j => some (.bool (c.i i j))
  | .str x, .str y => some (.bool (c.s x.cps.toList y.cps.toList))
  | _, _ => none
noncomputable def rCm (c : Cm) : R2 := fun x y H Q => (∃ i j, x = .int i ∧ y = .int j ∧ Q (.bl (c.i i j)) H) ∨ (∃ i j, x = .str i ∧ y = .str j ∧ Q (.bl (c.s i.cps.toList j.cps.toList)) H)
section
variable {X : Cx} {a b c : Expr} {m1 m2 m3 : Bool} {f g h : PEv} {pos : Pos} {K : PySem.W.Frag}
theorem op_cm (c : Cm) : OpR X (compareOp c.op) (rCm c) := by
  cases c with
  | lt => exact OpR.or op_lt op_lt_str
  | le => exact OpR.or op_le (fun pins s σ H x y v u Q I rx ry h => by
      obtain ⟨i, j, rfl, rfl, q⟩ := h
      obtain ⟨t, rfl⟩ := rx
      obtain ⟨t', rfl⟩ := ry
      exact PySem.P.le_str (fin_bl I q rfl))
  | gt => exact OpR.or op_gt (fun pins s σ H x y v u Q I rx ry h => by
      obtain ⟨i, j, rfl, rfl, q⟩ := h
      obtain ⟨t, rfl⟩ := rx
      obtain ⟨t', rfl⟩ := ry
      exact PySem.P.gt_str (fin_bl I q rfl))
  | ge => exact OpR.or op_ge (fun pins s σ H x y v u Q I rx ry h => by
      obtain ⟨i, j, rfl, rfl, q⟩ := h
      obtain ⟨t, rfl⟩ := rx
      obtain ⟨t', rfl⟩ := ry
      exact PySem.P.ge_str (fin_bl I q rfl))
theorem cm_ok (c : Cm) : ScOk K (rCm c) (dCmp c) := fun d1 d2 d v1 v2 H Q e r1 r2 => by
  unfold dCmp at e
  split at e
  · cases e; cases r1; cases r2
    exact ⟨_, rfl, fun q => .inl ⟨_, _, rfl, rfl, q⟩⟩
  · cases e; cases r1; cases r2
    exact ⟨_, rfl, fun q => .inr ⟨_, _, rfl, rfl, q⟩⟩
  · cases e
theorem nomark_cm (c : Cm) (b : Expr) : behindInMarks c.op b = false := by cases c <;> exact nomark _
theorem xt_cm (c : Cm) (ha : EX X a m1 f) (hb : EX X b m2 g) : TX X (.Compare a [c.op] [b] pos) (m1 || m2) (isB (pBin (sc2 (dCmp c)) m2 f g)) := xt_cmp (op_cm c) (sc2_ok (cm_ok c)) ha hb (nomark_cm c b)
theorem xe_ch (c1 c2 : Cm) (ha : EX X a m1 f) (hb : EX X b m2 g) (hc : EX X c m3 h) (hm : lastMarks [c1.op, c2.op] [b, c] = false := by with_unfolding_all rfl) : EX X (.Compare a [c1.op, c2.op] [b, c] pos) (m1 || (m2 || m3)) (pChain (dCmp c1) (dCmp c2) m2 m3 f g h) := xe_chain (op_cm c1) (op_cm c2) (cm_ok c1) (cm_ok c2) ha hb hc hm
theorem xt_ch (c1 c2 : Cm) (ha : EX X a m1 f) (hb : EX X b m2 g) (hc : EX X c m3 h) (hm : lastMarks [c1.op, c2.op] [b, c] = false := by with_unfolding_all rfl) : TX X (.Compare a [c1.op, c2.op] [b, c] pos) (m1 || (m2 || m3)) (isB (pChain (dCmp c1) (dCmp c2) m2 m3 f g h)) := xt_chain (op_cm c1) (op_cm c2) (cm_ok c1) (cm_ok c2) ha hb hc hm
noncomputable def pShr : P2 := sc2 (iOp (fun _ j => decide (0 ≤ j)) fun i j => .int (i / 2 ^ j.toNat))
noncomputable def pShl : P2 := sc2 (iOp (fun i j => decide (0 ≤ j ∧ j ≤ 1000000 ∧ -(2 ^ 64) < i ∧ i < 2 ^ 64)) fun i j => .int (i * 2 ^ j.toNat))
noncomputable def pAnd : P2 := sc2 (iOp (fun _ _ => true) fun i j => .int (Builtin.bitAnd i j))
theorem xe_shr (ha : EX X a m1 f) (hb : EX X b m2 g) : EX X (.BinOp a .RShift b pos) (m1 || m2) (pBin pShr m2 f g) := xe_op (r := rIC (fun _ j => decide (0 ≤ j)) fun i j => .int (i / 2 ^ j.toNat)) (OpR.imp op_shr fun x y H Q ⟨i, j, a, b, c, q⟩ => ⟨i, j, a, b, of_decide_eq_true c, q⟩) (iOp_ok fun _ _ => rfl) ha hb
theorem xe_shl (ha : EX X a m1 f) (hb : EX X b m2 g) : EX X (.BinOp a .LShift b pos) (m1 || m2) (pBin pShl m2 f g) := xe_op (r := rIC (fun i j => decide (0 ≤ j ∧ j ≤ 1000000 ∧ -(2 ^ 64) < i ∧ i < 2 ^ 64)) fun i j => .int (i * 2 ^ j.toNat)) (OpR.imp op_shl fun x y H Q ⟨i, j, a, b, c, q⟩ => ⟨i, j, a, b, cpow_of (of_decide_eq_true c), q⟩) (iOp_ok fun _ _ => rfl) ha hb
theorem xe_band (ha : EX X a m1 f) (hb : EX X b m2 g) : EX X (.BinOp a .BitAnd b pos) (m1 || m2) (pBin pAnd m2 f g) := xe_op (r := rIC (fun _ _ => true) fun i j => .int (Builtin.bitAnd i j)) (OpR.imp op_and fun x y H Q ⟨i, j, a, b, _, q⟩ => ⟨i, j, a, b, q⟩) (iOp_ok fun _ _ => rfl) ha hb
noncomputable def isInt : PyData → Option Int
  | .int x => some x
  | _ => none
noncomputable def strsOf : List PyData → Option (List Str)
  | [] => some []
  | .str x :: ds => (strsOf ds).map fun xs => x :: xs
  | _ :: _ => none
noncomputable def intsOf : List PyData → Option (List Int)
  | [] => some []
  | .int x :: ds => (intsOf ds).map fun xs => x :: xs
  | _ :: _ => none
theorem strsOf_eq : ∀ {ds : List PyData} {xs : List Str}, strsOf ds = some xs → ds = xs.map .str
  | [], xs, h => by cases h; rfl
  | d :: ds, xs, h => by
    cases d with
    | str x =>
      obtain ⟨ys, e, rfl⟩ := Option.map_eq_some_iff.mp h
      rw [strsOf_eq e]; rfl
    | _ => cases h
theorem intsOf_eq : ∀ {ds : List PyData} {xs : List Int}, intsOf ds = some xs → ds = xs.map .int
  | [], xs, h => by cases h; rfl
  | d :: ds, xs, h => by
    cases d with
    | int x =>
      obtain ⟨ys, e, rfl⟩ := Option.map_eq_some_iff.mp h
      rw [intsOf_eq e]; rfl
    | _ => cases h
theorem rpA_strs {H : Hp} : ∀ {vs : List V} {xs : List Str}, RpA K H vs (xs.map .str) → vs = xs.map .str
  | [], [], _ => rfl
  | v :: vs, x :: xs, .cons h r => by cases h; rw [rpA_strs r]; rfl
theorem rpA_ints {H : Hp} : ∀ {vs : List V} {xs : List Int}, RpA K H vs (xs.map .int) → vs = xs.map .int
  | [], [], _ => rfl
  | v :: vs, x :: xs, .cons h r => by cases h; rw [rpA_ints r]; rfl
noncomputable def dIn : PyData → PyData → Option Bool
  | .str x, .str y => some (!(Builtin.Str.occurrences y x 0 y.length 1).isEmpty)
  | .str x, .list ds => (strsOf ds).map fun xs => xs.contains x
  | .str x, .tuple ds => (strsOf ds).map fun xs => xs.contains x
  | .int x, .list ds => (intsOf ds).map fun xs => xs.contains x
  | .int x, .tuple ds => (intsOf ds).map fun xs => xs.contains x
  | _, _ => none
noncomputable def rInU (K : PySem.W.Frag) (neg : Bool) : R2 := fun x y H Q => (∃ i j, x = .str i ∧ y = .str j ∧ Q (.bl (if neg then !(!(Builtin.Str.occurrences j i 0 j.length 1).isEmpty) else !(Builtin.Str.occurrences j i 0 j.length 1).isEmpty)) H) ∨ rIn K neg x y H Q
theorem inV_strs (x : Str) (xs : List Str) : inV (.str x) (xs.map .str) = xs.contains x := by
  induction xs with
  | nil => rfl
  | cons y xs ih =>
    rw [List.contains_cons, ← ih]
    show (eqV (.str y) (.str x) || inV (.str x) (xs.map .str)) = _
    congr 1
    show (y == x) = (x == y)
    exact BEq.comm
theorem inV_ints (x : Int) (xs : List Int) : inV (.int x) (xs.map .int) = xs.contains x := by
  induction xs with
  | nil => rfl
  | cons y xs ih =>
    rw [List.contains_cons, ← ih]
    show (eqV (.int y) (.int x) || inV (.int x) (xs.map .int)) = _
    congr 1
    show (y == x) = (x == y)
    exact BEq.comm
theorem dIn_ok (neg : Bool) : ScOk K (rInU K neg) (fun d1 d2 => (dIn d1 d2).map fun b => .bool (if neg then !b else b)) := fun d1 d2 d v1 v2 H Q e r1 r2 => by
  obtain ⟨b, e', rfl⟩ := Option.map_eq_some_iff.mp e
  clear e
  have e := e'
  clear e'
  refine ⟨_, rfl, fun q => ?_⟩
  have hs : ∀ xs : List Str, (xs.map V.str).all flatV = true := fun xs => by simp [List.all_eq_true, flatV]
  have hi : ∀ xs : List Int, (xs.map V.int).all flatV = true := fun xs => by simp [List.all_eq_true, flatV]
  unfold dIn at e
  split at e
  · cases e; cases r1; cases r2
    exact .inl ⟨_, _, rfl, rfl, q⟩
  · obtain ⟨xs, ex, rfl⟩ := Option.map_eq_some_iff.mp e
    cases r1
    cases r2 with
    | lst h1 h2 =>
      rw [strsOf_eq ex] at h2
      rw [rpA_strs h2] at h1
      exact .inr ⟨_, _, rfl, .inl h1, rfl, hs _, by rw [inV_strs]; exact q⟩
  · obtain ⟨xs, ex, rfl⟩ := Option.map_eq_some_iff.mp e
    cases r1
    cases r2 with
    | tup h1 h2 =>
      rw [strsOf_eq ex] at h2
      rw [rpA_strs h2] at h1
      exact .inr ⟨_, _, rfl, .inr h1, rfl, hs _, by rw [inV_strs]; exact q⟩
  · obtain ⟨xs, ex, rfl⟩ := Option.map_eq_some_iff.mp e
    cases r1
    cases r2 with
    | lst h1 h2 =>
      rw [intsOf_eq ex] at h2
      rw [rpA_ints h2] at h1
      exact .inr ⟨_, _, rfl, .inl h1, rfl, hi _, by rw [inV_ints]; exact q⟩
  · obtain ⟨xs, ex, rfl⟩ := Option.map_eq_some_iff.mp e
    cases r1
    cases r2 with
    | tup h1 h2 =>
      rw [intsOf_eq ex] at h2
      rw [rpA_ints h2] at h1
      exact .inr ⟨_, _, rfl, .inr h1, rfl, hi _, by rw [inV_ints]; exact q⟩
  · cases e
noncomputable def pIn (neg : Bool) : P2 := sc2 fun d1 d2 => (dIn d1 d2).map fun b => .bool (if neg then !b else b)
theorem op_inU : OpR X (compareOp .In) (rInU X.K false) := OpR.or op_in_str op_in_seq
theorem op_notInU : OpR X (compareOp .NotIn) (rInU X.K true) := OpR.or op_notIn_str op_notIn_seq
theorem xt_in (ha : EX X a m1 f) (hb : EX X b m2 g) (hm : behindInMarks .In b = false := by with_unfolding_all rfl) : TX X (.Compare a [.In] [b] pos) (m1 || m2) (isB (pBin (pIn false) m2 f g)) := xt_cmp op_inU (sc2_ok (dIn_ok false)) ha hb hm
theorem xt_nin (ha : EX X a m1 f) (hb : EX X b m2 g) (hm : behindInMarks .NotIn b = false := by with_unfolding_all rfl) : TX X (.Compare a [.NotIn] [b] pos) (m1 || m2) (isB (pBin (pIn true) m2 f g)) := xt_cmp op_notInU (sc2_ok (dIn_ok true)) ha hb hm
end
noncomputable def dJoin (x : Str) : PyData → Option PyData
  | .list ds => (strsOf ds).bind fun ys => if (ys.map (·.length)).sum + ys.length * x.length ≤ 1000000 then some (.str (Txt.join x ys)) else none
  | .tuple ds => (strsOf ds).bind fun ys => if (ys.map (·.length)).sum + ys.length * x.length ≤ 1000000 then some (.str (Txt.join x ys)) else none
  | _ => none
theorem vals_strs {ys : List Str} : ∀ {us : List Value}, Vals (ys.map V.str) us → PyProof.Rows.StrsAre us ys := by
  induction ys with
  | nil => intro us h; cases h; exact .nil
  | cons y ys ih =>
    intro us h
    cases h with
    | cons h r =>
      obtain ⟨t, rfl⟩ := h
      exact .cons y t (ih r)
noncomputable def rJoin (K : PySem.W.Frag) : V → List V → Hp → VK → Prop := fun x vs H Q => ∃ z p ys, x = .str z ∧ vs = [.ref p] ∧ (SqL K H p (ys.map .str) ∨ SqT K H p (ys.map .str)) ∧ (ys.map (·.length)).sum + ys.length * z.length ≤ 16777216 ∧ Q (.str (Txt.join z ys)) H
theorem mt_join {X : Cx} : MtR X "str.join" (rJoin X.K) := by
  intro pins s σ H x vs v us Q I rx rv h
  obtain ⟨z, p, ys, rfl, rfl, hq, hl, q⟩ := h
  obtain ⟨t, rfl⟩ := rx
  obtain ⟨u, rfl, ru⟩ := rv.one
  cases ru
  rcases hq with hq | hq
  · obtain ⟨its, r, pl, _⟩ := I.list hq
    exact PyProof.Rows.join_list pl.isList (by simpa using vals_strs r) hl fun t' k => ⟨.str _, H, I.tok _, ⟨_, rfl⟩, q⟩
  · obtain ⟨its, r, pl, _⟩ := I.tuple hq
    exact PyProof.Rows.join_tuple pl (by simpa using vals_strs r) hl fun t' k => ⟨.str _, H, I.tok _, ⟨_, rfl⟩, q⟩
section
variable {X : Cx} {e o : Expr} {m1 m2 : Bool} {g : PAv} {f h : PEv} {p pos apos cpos : Pos} {K : PySem.W.Frag}
noncomputable def pJoin (x : Str) (f : PEv) : PEv := pUn (dJoin x) f
theorem xe_join {x : Str} {j : Nat} {sp : Pos} (he : EX X e m1 f) (hs : starEach [e] X.env = [(false, eval e X.env)] := by rfl) (hbase : attributeBase (.Constant (.str x) j sp) "join" X.env (eval (.Constant (.str x) j sp) X.env) = eval (.Constant (.str x) j sp) X.env := by rfl)
    (hfew : ((backTo cpos (starEach [e] X.env)).all (fun x => !x.1) && (backToKw cpos (keywordEach [] X.env)).all (fun x => x.1.isSome)
      && decide (([e] : List Expr).length + ([] : List Keyword).length + (if ([] : List Keyword).isEmpty then 0 else 1) < 30)) = true := by rfl) (hline : (apos.endLine == cpos.line) = true := by rfl) :
    EX X (.Call (.Attribute (.Constant (.str x) j sp) "join" apos) [e] [] cpos) m1 (pJoin x f) := by
  refine pe_imp (pe_bm PySem.F.plainAttrs_str PySem.F.slot_str_join PySem.F.type_str_join mt_join (pe_str) (pa_cons he pa_nil hs) hbase hfew hline hs rfl) fun σ H Q z => ?_
  obtain ⟨B, E, xs, Xs, res, E', fr, c, e, q⟩ := z
  obtain ⟨⟨s1, E1⟩, e1, e⟩ := Option.bind_eq_some_iff.mp e
  obtain ⟨d1, e2, e⟩ := Option.bind_eq_some_iff.mp e
  obtain ⟨d, e3, e⟩ := Option.map_eq_some_iff.mp e
  cases e
  refine ⟨rfl, B, E, xs, Xs, s1, E1, fr, c, e1, fun v1 H1 ⟨F, A, fr1⟩ => ?_⟩
  have r := (fr1.look0 e2).1
  obtain ⟨A', fr2⟩ := fr1.pop
  unfold dJoin at e3
  split at e3
  · obtain ⟨ys, ey, e3⟩ := Option.bind_eq_some_iff.mp e3
    split at e3
    · rename_i hl
      cases e3
      cases r with
      | lst h1 h2 =>
        rw [strsOf_eq ey] at h2
        rw [rpA_strs h2] at h1
        exact ⟨x, _, ys, rfl, rfl, .inl h1, by omega, q _ _ ⟨F, A', fr2.push ⟨rfl, _, rfl, .str _⟩⟩⟩
    · cases e3
  · obtain ⟨ys, ey, e3⟩ := Option.bind_eq_some_iff.mp e3
    split at e3
    · rename_i hl
      cases e3
      cases r with
      | tup h1 h2 =>
        rw [strsOf_eq ey] at h2
        rw [rpA_strs h2] at h1
        exact ⟨x, _, ys, rfl, rfl, .inr h1, by omega, q _ _ ⟨F, A', fr2.push ⟨rfl, _, rfl, .str _⟩⟩⟩
    · cases e3
  · cases e3
end
theorem xs_never {X : Cx} {st : Stmt} : SX X st (fun _ => none) := ps_imp ps_never fun D σ H z => by
  obtain ⟨B, E, xs, Xs, E', fl, fr, cl, e, q⟩ := z
  cases e
noncomputable def pNever : PSv := fun _ => none
end PL
namespace PL
open PySem L2 Nh
noncomputable def closL (scope : Scope) (env : Env) : List (Str × Addr) := ((scope.names.filter fun p => p.2 == .free).map fun p => (p.1, (env.cells.lookup p.1).getD 0)).reverse
theorem compOpen {X : Cx} {scope : Scope} {N : List Str} {js : List (Option Nat)} (clos : closureFor scope X.env = pure (closL scope X.env) := by rfl) (nocell : ∀ y ∈ scope.names, y.2 ≠ .cell := by decide +kernel) (kind : scope.kind = .function := by rfl)
    (names : ∀ y ∈ scope.names, y.2 = .local → scope.names.lookup y.1 = some .local := by decide +kernel) (same : (scope.names.filter fun p => p.2 == .free).all (fun p => (X.env.cells.lookup p.1).isSome) = true := by rfl)
    (has : (relabel scope X.env).names.all (fun y => !(y.2 == .cell || y.2 == .free) || ((closL scope X.env).lookup y.1).isSome) = true := by rfl) (len : js.length = N.length := by rfl)
    (fr : (js.zip N).all (fun p => match p.1 with | none => true | some j => X.N[j]? == some p.2 && ((relabel scope X.env).names.lookup p.2 == some .cell || (relabel scope X.env).names.lookup p.2 == some .free) && (X.env.kindOf p.2 == some .cell || X.env.kindOf p.2 == some .free)) = true := by rfl) :
    CompOk X scope (relabel scope X.env) (closL scope X.env) N js where
  clos := clos
  rel := rfl
  nocell := nocell
  kind := kind
  names := names
  same := fun x c e => by
    have hm := PySem.mem_of_lookup e
    unfold closL at hm
    obtain ⟨p, hp, ep⟩ := List.mem_map.mp (List.mem_reverse.mp hm)
    have := List.all_eq_true.mp same _ hp
    obtain ⟨c', ec⟩ := Option.isSome_iff_exists.mp this
    injection ep with e1 e2
    subst e1
    rw [ec] at e2 ⊢
    exact congrArg some e2
  has := fun x h => by
    have key : ∀ k, (relabel scope X.env).names.lookup x = some k → (k == NameKind.cell || k == NameKind.free) = true → ∃ c, (closL scope X.env).lookup x = some c := fun k h hk => by
      have := List.all_eq_true.mp has _ (PySem.mem_of_lookup h)
      simp only [hk, Bool.not_true, Bool.false_or] at this
      exact Option.isSome_iff_exists.mp this
    rcases h with h | h
    · exact key _ h rfl
    · exact key _ h rfl
  len := len
  from_ := fun i j h => by
    have hi : i < js.length := (List.getElem?_eq_some_iff.mp h).1
    obtain ⟨x, ex⟩ : ∃ x, N[i]? = some x := ⟨N[i]'(by omega), List.getElem?_eq_getElem (by omega)⟩
    have hz : (js.zip N)[i]? = some (some j, x) := by rw [List.getElem?_zip_eq_some]; exact ⟨h, ex⟩
    have := List.all_eq_true.mp fr _ (List.mem_of_getElem? hz)
    simp only [Bool.and_eq_true, Bool.or_eq_true, beq_iff_eq] at this
    exact ⟨x, ex, this.1.1, this.1.2, this.2⟩
structure Bn (mg : Str → Option Value) : Prop where
  len : mg "len" = none
  range : mg "range" = none
  abs : mg "abs" = none
  min : mg "min" = none
  max : mg "max" = none
  reversed : mg "reversed" = none
  enumerate : mg "enumerate" = none
  isinstance : mg "isinstance" = none
  list : mg "list" = none
  tuple : mg "tuple" = none
  str : mg "str" = none
  int : mg "int" = none
  bool : mg "bool" = none
  sorted : mg "sorted" = none
  zip : mg "zip" = none
  sum : mg "sum" = none
  any : mg "any" = none
  all : mg "all" = none
  set : mg "set" = none
  dict : mg "dict" = none
theorem bn_mk {K : PySem.W.Frag} {h : Heap} {mg : Str → Option Value} (X : K.In h) (G : h.Ns mainGlobals mg)
    (z1 : PySem.W.nsIn K mainGlobals "len" = some none) (z2 : PySem.W.nsIn K mainGlobals "range" = some none) (z3 : PySem.W.nsIn K mainGlobals "abs" = some none) (z4 : PySem.W.nsIn K mainGlobals "min" = some none) (z5 : PySem.W.nsIn K mainGlobals "max" = some none) (z6 : PySem.W.nsIn K mainGlobals "reversed" = some none) (z7 : PySem.W.nsIn K mainGlobals "enumerate" = some none) (z8 : PySem.W.nsIn K mainGlobals "isinstance" = some none) (z9 : PySem.W.nsIn K mainGlobals "list" = some none) (z10 : PySem.W.nsIn K mainGlobals "tuple" = some none) (z11 : PySem.W.nsIn K mainGlobals "str" = some none) (z12 : PySem.W.nsIn K mainGlobals "int" = some none) (z13 : PySem.W.nsIn K mainGlobals "bool" = some none) (z14 : PySem.W.nsIn K mainGlobals "sorted" = some none) (z15 : PySem.W.nsIn K mainGlobals "zip" = some none) (z16 : PySem.W.nsIn K mainGlobals "sum" = some none) (z17 : PySem.W.nsIn K mainGlobals "any" = some none) (z18 : PySem.W.nsIn K mainGlobals "all" = some none) (z19 : PySem.W.nsIn K mainGlobals "set" = some none) (z20 : PySem.W.nsIn K mainGlobals "dict" = some none) : Bn mg :=
  ⟨PySem.W.mg_none_of X G z1, PySem.W.mg_none_of X G z2, PySem.W.mg_none_of X G z3, PySem.W.mg_none_of X G z4, PySem.W.mg_none_of X G z5, PySem.W.mg_none_of X G z6, PySem.W.mg_none_of X G z7, PySem.W.mg_none_of X G z8, PySem.W.mg_none_of X G z9, PySem.W.mg_none_of X G z10, PySem.W.mg_none_of X G z11, PySem.W.mg_none_of X G z12, PySem.W.mg_none_of X G z13, PySem.W.mg_none_of X G z14, PySem.W.mg_none_of X G z15, PySem.W.mg_none_of X G z16, PySem.W.mg_none_of X G z17, PySem.W.mg_none_of X G z18, PySem.W.mg_none_of X G z19, PySem.W.mg_none_of X G z20⟩
end PL
namespace PL
open PySem L2 Nh
noncomputable abbrev PKv := List Sl → Option (List Sl × Bool)
end PL
namespace PL
open PySem L2 Nh
noncomputable def ptSl : Pt → Sl
  | .fl d => .sh d
  | .ol ds => .ow ds
section
variable {K : PySem.W.Frag} {F H : Hp}
theorem PtsOk.append : ∀ {us : List V} {ts : List Pt} {A : List Addr} {us' : List V} {ts' : List Pt} {A' : List Addr}, PtsOk K F H us ts A → PtsOk K F H us' ts' A' → PtsOk K F H (us ++ us') (ts ++ ts') (A ++ A')
  | [], [], A, _, _, _, h, h' => by rw [show A = [] from h]; exact h'
  | v :: vs, .fl d :: ps, A, _, _, _, h, h' => ⟨h.1, PtsOk.append h.2 h'⟩
  | v :: vs, .ol ds :: ps, A, _, _, _, h, h' => by
    obtain ⟨l, us, A1, rfl, rfl, hl, hr, q⟩ := h
    exact ⟨l, us, _, rfl, rfl, hl, hr, q.append h'⟩
  | [], _ :: _, _, _, _, _, h, _ => False.elim h
  | _ :: _, [], _, _, _, _, h, _ => False.elim h
theorem PtsOk.rev : ∀ {us : List V} {ts : List Pt} {A : List Addr}, PtsOk K F H us ts A → PtsOk K F H us.reverse ts.reverse A.reverse
  | [], [], A, h => by rw [show A = [] from h]; exact rfl
  | v :: vs, .fl d :: ps, A, h => by
    rw [List.reverse_cons, List.reverse_cons, ← List.append_nil A.reverse]
    exact (PtsOk.rev h.2).append (us' := [v]) (ts' := [.fl d]) (A' := []) ⟨h.1, rfl⟩
  | v :: vs, .ol ds :: ps, A, h => by
    obtain ⟨l, us, A1, rfl, rfl, hl, hr, q⟩ := h
    rw [List.reverse_cons, List.reverse_cons, List.reverse_cons]
    exact q.rev.append (us' := [.ref l]) (ts' := [.ol ds]) (A' := [l]) ⟨l, us, [], rfl, rfl, hl, hr, rfl⟩
  | [], _ :: _, _, h => False.elim h
  | _ :: _, [], _, h => False.elim h
theorem PtsOk.len : ∀ {us : List V} {ts : List Pt} {A : List Addr}, PtsOk K F H us ts A → us.length = ts.length
  | [], [], A, _ => rfl
  | v :: vs, .fl d :: ps, A, h => congrArg (· + 1) h.2.len
  | v :: vs, .ol ds :: ps, A, h => by
    obtain ⟨l, us, A1, rfl, rfl, hl, hr, q⟩ := h
    exact congrArg (· + 1) q.len
  | [], _ :: _, _, h => False.elim h
  | _ :: _, [], _, h => False.elim h
end
section
variable {K : PySem.W.Frag} {B F : Hp} {A : List Addr} {σ : SgT} {H : Hp} {E : List Sl} {xs : List V} {Xs : List Sl}
theorem pts_of : ∀ {us : List V} {ts : List Pt} {os : List (Option V)} {ss : List Sl} {A : List Addr}, us.length = ts.length → SAll (SlOk K F H σ) (us.map some ++ os) (ts.map ptSl ++ ss) A → ∃ A1 A2, A = A1 ++ A2 ∧ PtsOk K F H us ts A1 ∧ SAll (SlOk K F H σ) os ss A2
  | [], [], os, ss, A, _, h => ⟨[], A, rfl, rfl, h⟩
  | u :: us, t :: ts, os, ss, A, hl, h => by
    have h' : SAll (SlOk K F H σ) (some u :: (us.map some ++ os)) (ptSl t :: (ts.map ptSl ++ ss)) A := h
    cases h' with
    | cons q r =>
      obtain ⟨A1, A2, rfl, hp, hs⟩ := pts_of (by simpa using hl) r
      cases t with
      | fl d =>
        obtain ⟨rfl, w, ew, rw'⟩ := q
        cases ew
        exact ⟨A1, A2, rfl, ⟨rw', hp⟩, hs⟩
      | ol ds =>
        obtain ⟨l, vs, el, rfl, hl', r'⟩ := q
        cases el
        exact ⟨l :: A1, A2, rfl, ⟨l, vs, A1, rfl, rfl, hl', r', hp⟩, hs⟩
  | [], _ :: _, _, _, _, e, _ => by cases e
  | _ :: _, [], _, _, _, e, _ => by cases e
theorem FrF.newx {p : Addr} {vs : List V} {ps : List Pt} (hl : vs.length = ps.length) (h : FrF K B F A σ H E (vs.reverse ++ xs) (ps.reverse.map ptSl ++ Xs)) (hp : H p = none) : Frm K B σ (upd H p (.tup vs)) E (.ref p :: xs) (.tx ps :: Xs) := by
  have nA := h.newA hp
  have sl := h.sl
  rw [List.map_append, List.append_assoc, List.append_assoc] at sl
  obtain ⟨A1, A2, rfl, hpt, hs⟩ := pts_of (by simpa using hl) sl
  have g : Same H (upd H p (.tup vs)) := same_new hp _
  have gF : Same F (upd F p (.tup vs)) := same_new (h.fh.free hp) _
  have hr := hpt.rev
  rw [List.reverse_reverse, List.reverse_reverse] at hr
  have n1 : ∀ b ∈ A1, b ≠ p := fun b hb z => nA (by rw [← z]; exact List.mem_append_left _ hb)
  have n2 : ∀ b ∈ A2, b ≠ p := fun b hb z => nA (by rw [← z]; exact List.mem_append_right _ hb)
  refine ⟨upd F p (.tup vs), A1.reverse ++ A2, h.bf.trans gF, fun b o e => ?_, fun b o e => ?_, .cons ⟨p, vs, rfl, upd_same, hr.stay gF fun b hb => upd_ne (n1 b (List.mem_reverse.mp hb))⟩ (hs.mono fun o s C _ hC q => q.stay gF (fun b hb => upd_ne (n2 b (hC b hb))) fun _ => g), ?_, fun a ha => ?_, ?_, h.pl⟩
  · by_cases hb : b = p
    · subst hb; rw [upd_same] at e ⊢; exact e
    · rw [upd_ne hb] at e ⊢; exact h.fh _ _ e
  · obtain ⟨e1, e2⟩ := Option.filter_eq_some_iff.mp e
    by_cases hb : b = p
    · subst hb; rw [upd_same] at e1 ⊢; exact e1
    · rw [upd_ne hb] at e1 ⊢; exact h.tf b o (tups_of e1 e2)
  · exact (List.Perm.append_right _ (List.reverse_perm A1)).nodup_iff.mpr h.nd
  · have ne : a ≠ p := (List.mem_append.mp ha).elim (fun z => n1 a (List.mem_reverse.mp z)) (n2 a)
    rw [upd_ne ne]
    exact h.fr a ((List.mem_append.mp ha).elim (fun z => List.mem_append_left _ (List.mem_reverse.mp z)) (fun z => List.mem_append_right _ z))
  · have := h.len
    simp only [List.length_append, List.length_reverse, List.length_map] at this
    simp only [List.length_cons]
    omega
end
noncomputable def takeP (E : List Sl) : Sl → Option (Pt × List Sl)
  | .sh d => some (.fl d, E)
  | .ow ds => some (.ol ds, E)
  | .br d => if flat d then some (.fl d, E) else none
  | .al i => match E[i]? with
    | some (.ow ds) => some (.ol ds, E.set i .no)
    | some (.sh d) => some (.fl d, E)
    | _ => none
  | _ => none
noncomputable abbrev PMv := List Sl → Option (List Pt × List Sl)
noncomputable def raM (K : PySem.W.Frag) (m : Bool) (f : PMv) : TA := fun σ H Q => ∃ B E xs Xs ps E', Frm K B σ H E xs Xs ∧ (m = true → Calm Xs) ∧ f E = some (ps, E') ∧ ∀ vs H', vs.length = ps.length → Frm K B σ H' E' (vs.reverse ++ xs) (ps.reverse.map ptSl ++ Xs) → Q vs H'
noncomputable def MX (X : Cx) (es : List Expr) (m : Bool) (f : PMv) : Prop := PA X es (raM X.K m f)
noncomputable def mNil : PMv := fun E => some ([], E)
noncomputable def mCons (f : PEv) (g : PMv) : PMv := fun E => (f E).bind fun a => (takeP a.2 a.1).bind fun b => (g b.2).map fun c => (b.1 :: c.1, c.2)
noncomputable def pTupM (f : PMv) : PEv := fun E => (f E).bind fun a => if a.1.length ≤ 1000000 then some (.tx a.1, a.2) else none
section
variable {X : Cx} {e : Expr} {es : List Expr} {m1 m2 : Bool} {f : PEv} {g : PMv} {pos : Pos} {K : PySem.W.Frag}
theorem FrF.takeP {B F : Hp} {A : List Addr} {σ : SgT} {H : Hp} {E E' : List Sl} {xs : List V} {Xs : List Sl} {v : V} {s : Sl} {p : Pt} (h : FrF K B F A σ H E (v :: xs) (s :: Xs)) (q : PL.takeP E s = some (p, E')) : Frm K B σ H E' (v :: xs) (ptSl p :: Xs) := by
  cases s with
  | sh d => cases q; exact ⟨F, A, h⟩
  | ow ds => cases q; exact ⟨F, A, h⟩
  | br d =>
    simp only [PL.takeP] at q
    split at q
    · rename_i hf
      cases q
      have r := (h.look0 (d := d) rfl).1
      obtain ⟨A', h'⟩ := h.pop
      exact ⟨F, A', h'.push ⟨rfl, v, rfl, h.cold r hf⟩⟩
    · cases q
  | al i =>
    simp only [PL.takeP] at q
    split at q
    · rename_i ds ei
      cases q
      exact h.move ei
    · rename_i d ei
      cases q
      obtain ⟨v', A1, ev, rfl, w, ew, hw⟩ := h.ext (k := 0) rfl
      cases ev; cases ew
      obtain ⟨o, A2, eo, rfl, w, ew, r⟩ := h.var ei
      rw [hw] at eo
      cases eo
      cases ew
      obtain ⟨A', h'⟩ := h.pop
      exact ⟨F, A', h'.push ⟨rfl, _, rfl, r⟩⟩
    · cases q
  | no => cases q
  | od kvs => cases q
  | tx ps => cases q
theorem xm_nil : MX X [] false mNil := by
  refine pa_imp pa_nil fun σ H Q z => ?_
  obtain ⟨B, E, xs, Xs, res, E', fr, cl, e, q⟩ := z
  cases e
  exact q [] H rfl fr
theorem xm_cons (ha : EX X e m1 f) (hr : MX X es m2 g) (hs : starEach (e :: es) X.env = (false, eval e X.env) :: starEach es X.env := by rfl) : MX X (e :: es) (m1 || m2) (mCons f g) := by
  refine pa_imp (pa_cons ha hr hs) fun σ H Q z => ?_
  obtain ⟨B, E, xs, Xs, res, E', fr, cl, e, q⟩ := z
  obtain ⟨⟨s, E1⟩, e1, e⟩ := Option.bind_eq_some_iff.mp e
  obtain ⟨⟨p, E2⟩, e2, e⟩ := Option.bind_eq_some_iff.mp e
  obtain ⟨⟨rs, E3⟩, e3, e⟩ := Option.map_eq_some_iff.mp e
  cases e
  refine ⟨B, E, xs, Xs, s, E1, fr, fun z => cl (by simp [z]), e1, fun v1 H1 ⟨F, A, fr1⟩ => ?_⟩
  refine ⟨B, E2, v1 :: xs, ptSl p :: Xs, rs, E3, fr1.takeP e2, fun z => Calm.cons (cl (by simp [z])) (by cases p <;> rfl), e3, fun vs H2 hl fr2 => ?_⟩
  exact q (v1 :: vs) H2 (by simp [hl]) (by simpa using fr2)
theorem xe_tupM {x1} (h : MX X es m1 g) : EX X (.Tuple es x1 pos) m1 (pTupM g) := by
  refine pe_imp (pe_tup h) fun σ H Q z => ?_
  obtain ⟨B, E, xs, Xs, res, E', fr, cl, e, q⟩ := z
  obtain ⟨⟨ps, E1⟩, e1, e⟩ := Option.bind_eq_some_iff.mp e
  simp only at e
  split at e
  · rename_i hl
    cases e
    refine ⟨B, E, xs, Xs, ps, _, fr, cl, e1, fun vs H1 hv ⟨F, A, fr1⟩ => ?_⟩
    exact ⟨smallE (by omega), fun p hp => q _ _ (fr1.newx hv hp)⟩
  · cases e
end
noncomputable def isFl : Pt → Bool
  | .fl _ => true
  | _ => false
noncomputable def normX (f : PEv) : PEv := fun E => (f E).bind fun a => match a.1 with
  | .tx ps => if ps.all isFl then some (.sh (.tuple (ps.map Pt.val)), a.2) else some a
  | _ => some a
theorem xe_norm {X : Cx} {e : Expr} {m : Bool} {f : PEv} (h : EX X e m f) : EX X e m (normX f) := by
  refine pe_imp h fun σ H Q z => ?_
  obtain ⟨B, E, xs, Xs, res, E', fr, cl, e, q⟩ := z
  obtain ⟨⟨s, E1⟩, e1, e⟩ := Option.bind_eq_some_iff.mp e
  refine ⟨B, E, xs, Xs, s, E1, fr, cl, e1, fun v H1 fr1 => ?_⟩
  simp only at e
  split at e
  · split at e
    · cases e
      obtain ⟨F, A, fr1⟩ := fr1
      obtain ⟨F2, A2, fr2⟩ := fr1.frz0 (d := .tuple _) rfl
      exact q _ _ ⟨F2, A2, fr2⟩
    · cases e
      exact q _ _ fr1
  · cases e
    exact q _ _ fr1
end PL
namespace PL
open PySem PySem.Spec L2 Nh PyProof.Rows
noncomputable def okR (i : Int) : Prop := -1000000 ≤ i ∧ i ≤ 1000000
noncomputable instance (i : Int) : Decidable (okR i) := inferInstanceAs (Decidable (_ ∧ _))
theorem fits {i : Int} (h : -10000000 ≤ i ∧ i ≤ 10000000) : Builtin.Range.rangeFitsLong i = true := by
  unfold Builtin.Range.rangeFitsLong
  simp only [Bool.and_eq_true, decide_eq_true_eq]
  omega
end PL
namespace PL
open PySem L2 Nh
section
variable {K : PySem.W.Frag} {B F : Hp} {A : List Addr} {σ : SgT} {H H' : Hp} {E : List Sl}
theorem DlOk.len : ∀ {us : List (Key × V)} {kvs : List (Key × List PyData)} {A : List Addr}, DlOk K F H us kvs A → us.length = kvs.length
  | [], [], A, h => rfl
  | p :: us, q :: kvs, A, h => by
    obtain ⟨l, vs, A', rfl, rfl, hl, hr, k⟩ := h
    simp [k.len]
  | [], _ :: _, _, h => False.elim h
  | _ :: _, [], _, h => False.elim h
end
end PL
namespace PL
open PySem PySem.SeqAt
open AutoSeq1 (wpAny_loadPart')
open MeetsSeq MeetsSeq2 MeetsSeq3 SeqRoads2
noncomputable def RcLtAt (A : Around) (s : Shared) (y x : Value) (b : Bool) : Prop :=
  ∀ (prog : Program) (w : World) (E : Value → Shared → Prop) (Q : Value → Shared → Prop), Q (.bool b) s → wpAny (model prog w) A (richCompare .Lt y x) Q E s
noncomputable def lexB (e r : Nat → Bool) (fin : Bool) : List Nat → Bool
  | [] => fin
  | j :: js => if e j then lexB e r fin js else r j
theorem lt_loopAt (l b : Addr) (items items2 : Array Value) (n n2 : Nat) (dd dd2 : Option Addr) (sl sl2 : Array (Option Value)) (e r : Nat → Bool) (k : Nat) :
    ∀ i : Nat, min items.size items2.size - i = k → Meets (Builtin.«list.__eq__.loop» ⟨[.ref l, .ref b, rawInt i, rawInt 0], []⟩)
      (fun A R s => s.heap.get? l = some { cls := .type "list", dict := dd, data := .seq items n, slots := sl } ∧ s.heap.get? b = some { cls := .type "list", dict := dd2, data := .seq items2 n2, slots := sl2 } ∧
        (∀ j (h1 : j < items.size) (h2 : j < items2.size), EqAt A.in1 s items[j] items2[j] (e j)) ∧ (∀ j (h1 : j < items.size) (h2 : j < items2.size), e j = false → RcLtAt A.in1 s items[j] items2[j] (r j)) ∧
        R (.ok (.ret (.bool (lexB e r (decide (items.size < items2.size)) ((List.range (min items.size items2.size)).drop i))))) s) := by
  induction k with
  | zero =>
    intro i hk prog w A R s h
    obtain ⟨hp, g, d, tk, os⟩ := s; obtain ⟨hl, hb, he, hr, h⟩ := h
    wp_walk using wpAny_loadPart' hl, wpAny_loadPart' hb
    have hd : (List.range (min items.size items2.size)).drop i = [] := by simp; omega
    rw [hd] at h
    have hi : items[((i : Nat) : Int).toNat]? = none ∨ items2[((i : Nat) : Int).toNat]? = none := by
      simp
      omega
    have fin : R (.ok (.ret (.bool (decide (items.size < items2.size))))) ⟨hp, g, d, tk, os⟩ := h
    rcases h1 : items[((i : Nat) : Int).toNat]? with _ | x1
    · wp_walk using wpAny_loadPart' hl, wpAny_loadPart' hb
      exact fin
    · rcases h2 : items2[((i : Nat) : Int).toNat]? with _ | x2
      · wp_walk using wpAny_loadPart' hl, wpAny_loadPart' hb
        exact fin
      · rw [h1, h2] at hi
        rcases hi with hi | hi <;> cases hi
  | succ k ih =>
    intro i hk prog w A R s h
    obtain ⟨hp, g, d, tk, os⟩ := s; obtain ⟨hl, hb, he, hr, h⟩ := h
    wp_walk using wpAny_loadPart' hl, wpAny_loadPart' hb
    have hm : i < min items.size items2.size := by omega
    have hlt : i < items.size := by omega
    have hlt2 : i < items2.size := by omega
    have hi1 : items[((i : Nat) : Int).toNat]? = some items[i] := by simp [hlt]
    have hi2 : items2[((i : Nat) : Int).toNat]? = some items2[i] := by simp [hlt2]
    have hd : (List.range (min items.size items2.size)).drop i = i :: (List.range (min items.size items2.size)).drop (i + 1) := by simp [List.drop_eq_getElem_cons, hm]
    have hc : ((i : Int) + 1) = ((i + 1 : Nat) : Int) := by push_cast; rfl
    rw [hd, lexB] at h
    rw [hi1, hi2]
    refine wpAny_bind (he i hlt hlt2 prog w _ _ ?_)
    cases hb' : e i with
    | true =>
      rw [hb', if_pos rfl] at h
      wp_walk
      rw [hc]
      exact ⟨plainId_quiet plain_eq_loop _, codeAny_builtin entry_eq_loop (by
        rw [Around.under_plainId plain_eq_loop _]
        exact ih (i + 1) (by omega) prog w A R _ ⟨hl, hb, he, hr, h⟩)⟩
    | false =>
      rw [hb', if_neg (by decide)] at h
      wp_walk using wpAny_loadPart' hl, wpAny_loadPart' hb
      rw [hi1, hi2]
      refine wpAny_bind (hr i hlt hlt2 hb' prog w _ _ ?_)
      wp_walk
      exact h
theorem list_ltAt (l b : Addr) (items items2 : Array Value) (n n2 : Nat) (dd dd2 : Option Addr) (sl sl2 : Array (Option Value)) (e r : Nat → Bool) :
    Meets (Builtin.«list.__lt__» ⟨[.ref l, .ref b], []⟩)
      (fun A R s => s.heap.get? l = some { cls := .type "list", dict := dd, data := .seq items n, slots := sl } ∧ s.heap.get? b = some { cls := .type "list", dict := dd2, data := .seq items2 n2, slots := sl2 } ∧
        (∀ j (h1 : j < items.size) (h2 : j < items2.size), EqAt A.in1 s items[j] items2[j] (e j)) ∧ (∀ j (h1 : j < items.size) (h2 : j < items2.size), e j = false → RcLtAt A.in1 s items[j] items2[j] (r j)) ∧
        R (.ok (.ret (.bool (lexB e r (decide (items.size < items2.size)) (List.range (min items.size items2.size)))))) s) := by
  intro prog w A R s h
  obtain ⟨hp, g, d, tk, os⟩ := s; obtain ⟨hl, hb, he, hr, h⟩ := h
  have f3 := AutoSeq1.sub_list_list
  wp_walk using wpAny_loadPart' hl, wpAny_loadPart' hb
  exact ⟨plainId_quiet plain_eq_loop _, codeAny_builtin entry_eq_loop (by
    rw [Around.under_plainId plain_eq_loop _]
    exact lt_loopAt l b items items2 n n2 dd dd2 sl sl2 e r _ 0 rfl prog w A R _ ⟨hl, hb, he, hr, by simpa using h⟩)⟩
theorem tuple_ltAt (l b : Addr) (items items2 : Array Value) (n n2 : Nat) (dd dd2 : Option Addr) (sl sl2 : Array (Option Value)) (e r : Nat → Bool) :
    Meets (Builtin.«tuple.__lt__» ⟨[.ref l, .ref b], []⟩)
      (fun A R s => s.heap.get? l = some { cls := .type "tuple", dict := dd, data := .seq items n, slots := sl } ∧ s.heap.get? b = some { cls := .type "tuple", dict := dd2, data := .seq items2 n2, slots := sl2 } ∧
        (∀ j (h1 : j < items.size) (h2 : j < items2.size), EqAt A.in1 s items[j] items2[j] (e j)) ∧ (∀ j (h1 : j < items.size) (h2 : j < items2.size), e j = false → RcLtAt A.in1 s items[j] items2[j] (r j)) ∧
        R (.ok (.ret (.bool (lexB e r (decide (items.size < items2.size)) (List.range (min items.size items2.size)))))) s) :=
  .of_wp fun prog w A R s h => by
    obtain ⟨hp, g, d, tk, os⟩ := s; obtain ⟨hl, hb, he, hr, h⟩ := h
    have f2 := AutoSeq1.sub_tuple_tuple
    have hZ : (items.toList.zip items2.toList).length = min items.size items2.size := by simp
    wp_walk using wpAny_loadPart' hl, wpAny_loadPart' hb, wpAny_forIn_list _ (fun rest b s' => b.1 = none ∧ s' = ⟨hp, g, d, tk, os⟩ ∧ ∃ i, rest = (items.toList.zip items2.toList).drop i ∧
      R (.ok (.ret (.bool (lexB e r (decide (items.size < items2.size)) ((List.range (min items.size items2.size)).drop i))))) ⟨hp, g, d, tk, os⟩) _
    case turn =>
      rintro ⟨y, x⟩ rest b s' ⟨hb', rfl, i, hz, hR⟩
      have hlt : i < (items.toList.zip items2.toList).length := by
        rcases Nat.lt_or_ge i (items.toList.zip items2.toList).length with h' | h'
        · exact h'
        · rw [List.drop_of_length_le h'] at hz; cases hz
      have hm : i < min items.size items2.size := hZ ▸ hlt
      have h1 : i < items.size := Nat.lt_of_lt_of_le hm (Nat.min_le_left _ _)
      have h2 : i < items2.size := Nat.lt_of_lt_of_le hm (Nat.min_le_right _ _)
      rw [List.drop_eq_getElem_cons hlt] at hz
      injection hz with hyx hrest
      have hy : y = items[i] := by have := congrArg Prod.fst hyx; simpa using this
      have hx : x = items2[i] := by have := congrArg Prod.snd hyx; simpa using this
      subst hy hx
      have hd : (List.range (min items.size items2.size)).drop i = i :: (List.range (min items.size items2.size)).drop (i + 1) := by simp [List.drop_eq_getElem_cons, hm]
      rw [hd, lexB] at hR
      refine wpAny_bind (he i h1 h2 prog w _ _ ?_)
      cases hy : e i with
      | true =>
        rw [hy, if_pos rfl] at hR
        wp_walk
        exact ⟨rfl, rfl, i + 1, hrest, hR⟩
      | false =>
        rw [hy, if_neg (by decide)] at hR
        rw [show (!false) = true from rfl, if_pos rfl]
        refine wpAny_bind (wpAny_rule (wpAny_bind (hr i h1 h2 hy prog w _ _ ?_)))
        wp_walk
        exact ⟨_, rfl, hR⟩
    case fin =>
      rintro ⟨b1, b2⟩ s' ⟨hb', rfl, i, hz, hR⟩
      simp only at hb'
      subst hb'
      have hge : min items.size items2.size ≤ i := by
        rcases Nat.lt_or_ge i (items.toList.zip items2.toList).length with h' | h'
        · rw [List.drop_eq_getElem_cons h'] at hz; cases hz
        · exact hZ ▸ h'
      rw [List.drop_of_length_le (by simpa using hge)] at hR
      wp_walk
      exact ⟨_, rfl, hR⟩
    case h =>
      exact ⟨rfl, rfl, 0, rfl, by simpa using h⟩
section
variable {A : Around} {s : Shared}
theorem RcLtAt.lists {l b : Addr} {items items2 : Array Value} {e r : Nat → Bool} (hl : s.heap.IsList l items) (hb : s.heap.IsList b items2) (hu : A.units < cLine)
    (he : ∀ j (h1 : j < items.size) (h2 : j < items2.size), EqAt A.in1 s items[j] items2[j] (e j)) (hr : ∀ j (h1 : j < items.size) (h2 : j < items2.size), e j = false → RcLtAt A.in1 s items[j] items2[j] (r j)) : RcLtAt A s (.ref l) (.ref b) (lexB e r (decide (items.size < items2.size)) (List.range (min items.size items2.size))) := fun prog w E Q h => by
  obtain ⟨⟨cls, dd, data, sl⟩, ho, hc, n, hd⟩ := id hl
  obtain ⟨⟨cls2, dd2, data2, sl2⟩, ho2, hc2, n2, hd2⟩ := id hb
  simp only at hc hd hc2 hd2
  subst hc hd hc2 hd2
  exact richCompare_meets_room (op := .Lt) ⟨_, ho, rfl⟩ ⟨_, ho2, rfl⟩ F.slot_list_lt F.entry_list_lt (F.args_list_lt_2 _ _) (list_ltAt l b items items2 n n2 dd dd2 sl sl2 e r)
    ⟨ho, ho2, he, hr, show Value.bool _ ≠ Value.notImplemented ∧ Q (.bool _) s from ⟨(fun x => nomatch x), h⟩⟩ hu
theorem RcLtAt.tuples {l b : Addr} {items items2 : Array Value} {e r : Nat → Bool} (hl : s.heap.IsTuple l items) (hb : s.heap.IsTuple b items2) (hu : A.units < cLine)
    (he : ∀ j (h1 : j < items.size) (h2 : j < items2.size), EqAt A.in1 s items[j] items2[j] (e j)) (hr : ∀ j (h1 : j < items.size) (h2 : j < items2.size), e j = false → RcLtAt A.in1 s items[j] items2[j] (r j)) : RcLtAt A s (.ref l) (.ref b) (lexB e r (decide (items.size < items2.size)) (List.range (min items.size items2.size))) := fun prog w E Q h => by
  obtain ⟨⟨cls, dd, data, sl⟩, ho, hc, n, hd⟩ := id hl
  obtain ⟨⟨cls2, dd2, data2, sl2⟩, ho2, hc2, n2, hd2⟩ := id hb
  simp only at hc hd hc2 hd2
  subst hc hd hc2 hd2
  exact richCompare_meets_room (op := .Lt) ⟨_, ho, rfl⟩ ⟨_, ho2, rfl⟩ F.slot_tuple_lt F.entry_tuple_lt (F.args_tuple_lt_2 _ _) (tuple_ltAt l b items items2 n n2 dd dd2 sl sl2 e r)
    ⟨ho, ho2, he, hr, show Value.bool _ ≠ Value.notImplemented ∧ Q (.bool _) s from ⟨(fun x => nomatch x), h⟩⟩ hu
theorem RcLtAt.ints (i j : Int) (t u : Tok) : RcLtAt A s (.int i t) (.int j u) (decide (i < j)) := fun prog w E Q h => PyProof.Rows.lt_int h
end
end PL
namespace PL
open PySem PySem.SeqAt L2 Nh
noncomputable abbrev LtF := PyData → PyData → Option Bool
noncomputable def ltS : LtF
  | .int i, .int j => some (decide (i < j))
  | .str a, .str b => some (decide (a.cps.toList < b.cps.toList))
  | _, _ => none
noncomputable def ltLx (lt : LtF) : List PyData → List PyData → Option Bool
  | [], ys => some (!ys.isEmpty)
  | _ :: _, [] => some false
  | x :: xs, y :: ys => if PyData.eqv x y then ltLx lt xs ys else (lt x y).bind fun b => (ltLx lt xs ys).map fun _ => b
noncomputable def ltU (lt : LtF) : LtF
  | .list xs, .list ys => ltLx lt xs ys
  | .tuple xs, .tuple ys => ltLx lt xs ys
  | d, e => ltS d e
noncomputable def lt2 : LtF := ltU (ltU ltS)
end PL
namespace PL
open PySem L2 Nh
noncomputable def boolsOf : List PyData → Option (List Bool)
  | [] => some []
  | .bool b :: ds => (boolsOf ds).map (b :: ·)
  | _ => none
noncomputable def dAny : List PyData → Option PyData
  | [.list ds] => (boolsOf ds).map fun bs => .bool (bs.any id)
  | _ => none
noncomputable def rBools (K : PySem.W.Frag) (f : List Bool → Bool) : List V → Hp → VK → Prop := fun xs H Q => ∃ p bs, xs = [.ref p] ∧ SqL K H p (bs.map V.bl) ∧ Q (.bl (f bs)) H
theorem bools_rp {K : PySem.W.Frag} {H : Hp} : ∀ {vs : List V} {ds : List PyData} {bs : List Bool}, RpA K H vs ds → boolsOf ds = some bs → vs = bs.map V.bl
  | _, _, bs, .nil, e => by cases e; rfl
  | _, _, bs, .cons (d := d) h t, e => by
    cases d <;> simp [boolsOf] at e
    obtain ⟨cs, e, rfl⟩ := e
    cases h
    rw [bools_rp t e]
    rfl
theorem bools_ok {K : PySem.W.Frag} {f : List Bool → Bool} : CaOk K (rBools K f) (fun ds => match ds with
  | [.list ds] => (boolsOf ds).map fun bs => .bool (f bs)
  | _ => none) := fun ds d vs H Q e r => by
  simp only at e
  split at e
  · obtain ⟨bs, eb, rfl⟩ := Option.map_eq_some_iff.mp e
    obtain ⟨v, rfl, r1⟩ := r.one
    cases r1 with
    | lst h1 h2 =>
      have := bools_rp h2 eb
      subst this
      exact ⟨_, rfl, fun q => ⟨_, bs, rfl, h1, q⟩⟩
  · cases e
theorem range_any : ∀ bs : List Bool, (List.range bs.length).any (fun i => bs.getD i false) = bs.any id
  | [] => rfl
  | b :: bs => by
    rw [List.length_cons, List.range_succ_eq_map, List.any_cons, List.any_map, List.any_cons, ← range_any bs]
    rfl
section
variable {X : Cx} {e : Expr} {es : List Expr} {m1 : Bool} {g : PAv} {p pos : Pos}
theorem vals_bools : ∀ {bs : List Bool} {us : List Value}, Vals (bs.map V.bl) us → us = bs.map Value.bool
  | [], _, .nil => rfl
  | b :: bs, _, .cons h t => by cases h; rw [vals_bools t]; rfl
theorem bool_at {bs : List Bool} {i : Nat} {v : Value} (h : (bs.map Value.bool).toArray[i]? = some v) : v = .bool (bs.getD i false) := by
  rw [List.getElem?_toArray, List.getElem?_map] at h
  obtain ⟨b, e, rfl⟩ := Option.map_eq_some_iff.mp h
  rw [List.getD_eq_getElem?_getD, e]
  rfl
theorem call_anyL (hc : X.calm = true) : CallR X (.builtin "any") (rBools X.K fun bs => bs.any id) := by
  intro pins s σ H xs us Q I r h
  obtain ⟨a, bs, rfl, hq, q⟩ := h
  cases r with
  | cons r rr =>
    cases rr
    cases r
    obtain ⟨its, rv, pl, hz⟩ := I.list hq
    have := vals_bools rv
    subst this
    obtain ⟨o, n, eo, _⟩ := id pl
    have hlt : a < s.heap.objs.size := Heap.lt_size eo
    refine call_any_walk (wpAny_pyIter_list pl.isList ?_)
    refine ⟨s.heap.objs.size, _, _, _, _, _, fun i => bs.getD i false, rfl, Walks.list (A := X.A.in1) (I.ok.hd hc) s.heap.objs.size a (Nat.ne_of_lt hlt) (bs.map Value.bool).toArray, ?_, ?_, ?_⟩
    · exact ⟨⟨_, Heap.get?_push_size _ rfl, rfl, rfl⟩, pl.isList.at fun o e => Heap.get?_push_of_some _ e⟩
    · intro i v s Q E hv hQ
      rw [bool_at hv]
      exact wpAny_truthy_bool hQ
    · intro h' tk hk
      refine ⟨.bl _, H, I.kept (t' := tk) fun b o e => hk b o (fun z => ?_) (Heap.get?_push_of_some _ e), rfl, ?_⟩
      · have : b = s.heap.objs.size := by simpa using z
        exact Nat.lt_irrefl _ (this ▸ Heap.lt_size e)
      · rw [show ((bs.map Value.bool).toArray).size = bs.length by simp, range_any]
        exact q
theorem xe_any (hc : X.calm = true) (hg : Gl X "any") (hm : X.mg "any" = none) (ha : AX X [e] m1 g) (he : starEach [e] X.env = [(false, eval e X.env)] := by rfl) : EX X (.Call (.Name "any" p) [e] [] pos) m1 (pCaS dAny g) := xe_callS (r := rBools X.K fun bs => bs.any id) bools_ok (call_anyL hc) hg hm PyProof.Rows.boot_any ha (by decide) (by decide) he rfl
theorem vals_ints : ∀ {ns : List Int} {us : List Value}, Vals (ns.map V.int) us → us.length = ns.length ∧ ∀ (i : Nat) (v : Value), us[i]? = some v → ∃ t, v = Value.int (ns.getD i 0) t
  | [], _, .nil => ⟨rfl, fun i v h => by simp at h⟩
  | n :: ns, _, .cons h t => by
    obtain ⟨tk, rfl⟩ := h
    obtain ⟨h1, h2⟩ := vals_ints t
    refine ⟨by simp [h1], fun i v h => ?_⟩
    cases i with
    | zero => simp at h; subst h; exact ⟨tk, rfl⟩
    | succ i => simpa using h2 i v (by simpa using h)
end
end PL
namespace PL
open PySem L2 Nh
theorem SAll.memA {P : Option V → Sl → List Addr → Prop} {os : List (Option V)} {ss : List Sl} {A : List Addr} {k : Nat} {s : Sl} (h : SAll P os ss A) (e : ss[k]? = some s) : ∃ o A1, os[k]? = some o ∧ P o s A1 ∧ ∀ a ∈ A1, a ∈ A := by
  obtain ⟨o, A0, A1, A2, eA, eo, hp, _⟩ := h.at e
  exact ⟨o, A1, eo, hp, fun a ha => by rw [eA]; exact List.mem_append_right _ (List.mem_append_left _ ha)⟩
theorem SAll.two {P : Option V → Sl → List Addr → Prop} : ∀ {os : List (Option V)} {ss : List Sl} {A : List Addr} {i j : Nat} {s t : Sl}, SAll P os ss A → ss[i]? = some s → ss[j]? = some t → i ≠ j → A.Nodup →
    ∃ o1 A1 o2 A2, os[i]? = some o1 ∧ P o1 s A1 ∧ os[j]? = some o2 ∧ P o2 t A2 ∧ (∀ a ∈ A1, a ∈ A) ∧ (∀ a ∈ A2, a ∈ A) ∧ ∀ a ∈ A1, a ∉ A2
  | _, _, _, _, _, _, _, .nil, e, _, _, _ => by simp at e
  | _, _, _, 0, 0, _, _, .cons h r, _, _, n, _ => absurd rfl n
  | _, _, _, 0, j + 1, s, t, .cons (o := o) (A := A) (B := B) h r, e1, e2, _, nd => by
    simp at e1
    subst e1
    obtain ⟨o2, A2, eo, hp, sub⟩ := r.memA (k := j) (by simpa using e2)
    exact ⟨o, A, o2, A2, rfl, h, by simpa using eo, hp, fun a ha => List.mem_append_left _ ha, fun a ha => List.mem_append_right _ (sub a ha), fun a ha hb => (List.nodup_append.mp nd).2.2 a ha a (sub a hb) rfl⟩
  | _, _, _, i + 1, 0, s, t, .cons (o := o) (A := A) (B := B) h r, e1, e2, _, nd => by
    simp at e2
    subst e2
    obtain ⟨o2, A2, eo, hp, sub⟩ := r.memA (k := i) (by simpa using e1)
    exact ⟨o2, A2, o, A, by simpa using eo, hp, rfl, h, fun a ha => List.mem_append_right _ (sub a ha), fun a ha => List.mem_append_left _ ha, fun a ha hb => (List.nodup_append.mp nd).2.2 a hb a (sub a ha) rfl⟩
  | _, _, _, i + 1, j + 1, s, t, .cons (o := o) (A := A) (B := B) h r, e1, e2, n, nd => by
    obtain ⟨o1, A1, o2, A2, q1, q2, q3, q4, q5, q6, q7⟩ := r.two (i := i) (j := j) (by simpa using e1) (by simpa using e2) (fun z => n (by rw [z])) (List.nodup_append.mp nd).2.1
    exact ⟨o1, A1, o2, A2, by simpa using q1, q2, by simpa using q3, q4, fun a ha => List.mem_append_right _ (q5 a ha), fun a ha => List.mem_append_right _ (q6 a ha), q7⟩
end PL
namespace NhMaxD
open PySem PyProof.Rows
theorem args_max (a d : Value) : argsOk "max" ⟨[a], [("default", d)]⟩ := by unfold argsOk; kernel_rfl
section
variable {prog : Program} {w : World} {A : Around} {E : Value → Shared → Prop} {R : Result → Shared → Prop} {I : Addr} {fp wr : List Addr} {St : Nat → Heap → Prop}
noncomputable abbrev Keeps (h : Heap) (S : Addr) (vs : Array Value) : Prop := ∃ c, h.get? S = some { cls := .type "list", dict := none, data := .seq vs c, slots := #[] }
theorem loop {ns : List Int} (W : Walks prog w A.in1 I fp wr ns.length (fun i v => ∃ t, v = .int (ns.getD i 0) t) St) (S : Addr) (hSf : S ∉ fp) (d : Value) :
    ∀ (k j : Nat) (s : Shared) (m : Int) (t : Tok), ns.length - j = k → j ≤ ns.length → St j s.heap → Keeps s.heap S #[.int m t, .int m t] →
      (∀ t' h' tk, (∀ b o, b ∉ S :: wr → s.heap.get? b = some o → h'.get? b = some o) → R (.ok (.ret (.int ((ns.drop j).foldl max m) t'))) { s with heap := h', toks := tk }) →
      codeAny (model prog w) A (.builtin "max.loop" ⟨[.ref I, .none, .ref S], [("default", d)]⟩) R s := by
  have hSw : S ∉ wr := fun h => hSf (W.sub _ h)
  have hnm : (toString "max" ++ toString ".loop" : String) = "max.loop" := by decide
  intro k
  induction k with
  | zero =>
    rintro j s m t hk hj st ⟨c, hS⟩ hR
    have hjn : j = ns.length := by omega
    refine codeAny_builtin PySem.F.entry_max_loop ?_
    rw [Around.under_plainId PySem.F.plain_max_loop _]
    refine wpAny_bind (m := seqItems? (.ref S)) (wpAny_seqItems hS rfl ?_)
    refine wpAny_bind (m := tryCatch (pyNext (.ref I)) _) (wpAny_tryCatch (W.done s _ _ (by rw [← hjn]; exact st) fun h' tk kp => ?_))
    refine wpAny_bind (m := updateSeq S (fun _ => #[])) (wpAny_updateSeq (kp S _ hSw hS) rfl (wpAny_bind (wpAny_letGo (wpAny_pure ?_))))
    have e : (ns.drop j).foldl max m = m := by rw [hjn, List.drop_length]; rfl
    rw [e] at hR
    exact hR t _ tk fun b o hb q => (Heap.get?_update_other _ _ (fun z : S = b => hb (by rw [← z]; exact List.mem_cons_self ..))).trans (kp b o (fun z => hb (List.mem_cons_of_mem _ z)) q)
  | succ k ih =>
    rintro j s m t hk hj st ⟨c, hS⟩ hR
    have hlt : j < ns.length := by omega
    refine codeAny_builtin PySem.F.entry_max_loop ?_
    rw [Around.under_plainId PySem.F.plain_max_loop _]
    refine wpAny_bind (m := seqItems? (.ref S)) (wpAny_seqItems hS rfl ?_)
    refine wpAny_bind (m := tryCatch (pyNext (.ref I)) _) (wpAny_tryCatch (W.item j s _ _ hlt st fun v h' tk hv st' kp => ?_))
    obtain ⟨u, rfl⟩ := hv
    have hS' := kp S _ hSw hS
    have eg : ns.getD j 0 = ns[j] := by simp [hlt]
    rw [eg]
    have ed : (ns.drop j).foldl max m = (ns.drop (j + 1)).foldl max (max m ns[j]) := by rw [List.drop_eq_getElem_cons hlt, List.foldl_cons]
    rw [ed] at hR
    have cmp := CmpOf.ints_gt (prog := prog) (w := w) (A := A.in1) (P := fun i v => ∃ t, v = .int (if i = 0 then ns[j] else m) t) (fun i => if i = 0 then ns[j] else m) (fun _ _ z => z)
    refine wpAny_bind (m := tryCatch (holding [.int ns[j] u, .int ns[j] u] (richCompare .Gt (.int ns[j] u) (.int m t) >>= _)) _) (wpAny_tryCatch (wpAny_holding (wpAny_bind (cmp 0 1 _ _ _ _ _ ⟨u, rfl⟩ ⟨t, rfl⟩ ?_))))
    refine wpAny_bind (wpAny_holding (wpAny_truthy_bool ?_))
    refine wpAny_bind (wpAny_letGo (wpAny_pure ?_))
    simp only [if_true, Nat.one_ne_zero, if_false]
    by_cases hb : ns[j] > m
    · simp only [hb, decide_true, if_true]
      refine wpAny_bind (wpAny_updateSeq hS' rfl (wpAny_bind (wpAny_letGo ?_)))
      rw [hnm]
      rw [show max m ns[j] = ns[j] by omega] at hR
      refine wpAny_pure ⟨plainId_quiet PySem.F.plain_max_loop _, ih (j + 1) _ ns[j] u (by omega) hlt (W.frame _ _ _ st' fun b hbf o e => ?_) ⟨_, Heap.get?_update_self _ hS' rfl⟩ fun t' h2 tk2 k2 => ?_⟩
      · exact (Heap.get?_update_other _ _ (fun z : S = b => hSf (by rw [z]; exact hbf))).trans e
      · exact hR t' h2 tk2 fun b o hbb e => k2 b o hbb ((Heap.get?_update_other _ _ (fun z : S = b => hbb (by rw [← z]; exact List.mem_cons_self ..))).trans (kp b o (fun z => hbb (List.mem_cons_of_mem _ z)) e))
    · simp only [hb, decide_false, Bool.false_eq_true, if_false]
      refine wpAny_bind (wpAny_letGo ?_)
      rw [hnm]
      rw [show max m ns[j] = m by omega] at hR
      refine wpAny_pure ⟨plainId_quiet PySem.F.plain_max_loop _, ih (j + 1) _ m t (by omega) hlt st' ⟨_, hS'⟩ fun t' h2 tk2 k2 => ?_⟩
      exact hR t' h2 tk2 fun b o hbb e => k2 b o hbb (kp b o (fun z => hbb (List.mem_cons_of_mem _ z)) e)
noncomputable def topD : List Int → Int → Int
  | [], d => d
  | n :: r, _ => r.foldl max n
theorem call {s : Shared} {l : Addr} {items : Array Value} {ns : List Int} {d : Int} {td : Tok} {Q : Value → Shared → Prop} (hh : A.handled = none) (hl : s.heap.IsList l items) (hi : IntsAre items.toList ns)
    (h : ∀ t h' tk, (∀ b o, s.heap.get? b = some o → h'.get? b = some o) → Q (.int (topD ns d) t) { s with heap := h', toks := tk }) :
    wpAny (model prog w) A (PySem.call (.builtin "max") [.ref l] [("default", .int d td)]) Q E s := by
  have hnm : (toString "max" ++ toString ".loop" : String) = "max.loop" := by decide
  refine wpAny_call (codeAny_call_builtin PySem.F.plain_max PySem.F.entry_max ?_)
  simp only [checkBuiltinCall, PySem.F.kind_max]
  have key : wpAny (model prog w) A.in1 (Builtin.«max» ⟨[.ref l], [("default", .int d td)]⟩) (fun fin s' => match fin with
      | .done f => (match (Except.ok f : Result) with | .ok (.ret v) => Q v s' | .ok _ => False | .error e => E e s')
      | .again c' => c'.quiet = true ∧ codeAny (model prog w) A c' (fun r s' => match r with | .ok (.ret v) => Q v s' | .ok _ => False | .error e => E e s') s') E s := by
    refine wpAny_bind (m := Builtin.Builtins.bindParams "max" ["key", "default"] 0 ⟨[], [("default", .int d td)]⟩) (wpAny_of_eq (a := [none, some (.int d td)]) rfl ?_)
    refine wpAny_bind (wpAny_pure ?_)
    refine wpAny_bind (wpAny_pyIter_list hl ?_)
    refine wpAny_bind (wpAny_newObj_type ?_)
    rw [hnm]
    have hlen : items.size = ns.length := by have := hi.length; simpa using this
    have hlt : l < s.heap.objs.size := let ⟨_, ho, _⟩ := hl; Heap.lt_size ho
    have hI : (s.heap.push { cls := .type "list_iterator", data := .fields #[.ref l, .int 0 0] }).objs.size = s.heap.objs.size + 1 := by rw [Heap.size_push]
    have W0 := Walks.list (prog := prog) (w := w) (A := A.in1) (by simpa using hh) s.heap.objs.size l (Nat.ne_of_lt hlt) items
    have W : Walks prog w A.in1 s.heap.objs.size [s.heap.objs.size, l] [s.heap.objs.size] ns.length (fun i v => ∃ t, v = .int (ns.getD i 0) t) (fun i h => h.IsListIter s.heap.objs.size l i ∧ h.IsList l items) := by
      rw [← hlen]
      exact ⟨W0.sub, W0.frame, fun i s Q E hi' st hQ => W0.item i s Q E hi' st fun v h' tk hv st' kp => hQ v h' tk (IntsAre.int_at hi i v (by rw [Array.getElem?_toList]; exact hv)) st' kp, W0.done, W0.self⟩
    have hSf : (s.heap.push { cls := .type "list_iterator", data := .fields #[.ref l, .int 0 0] }).objs.size ∉ [s.heap.objs.size, l] := by
      rw [hI]
      intro z
      rcases List.mem_cons.mp z with z | z
      · exact absurd z (Nat.ne_of_gt (Nat.lt_succ_self _))
      · exact absurd (List.mem_singleton.mp z) (Nat.ne_of_gt (Nat.lt_succ_of_lt hlt))
    have st0 : ∀ o, (fun i (h : Heap) => h.IsListIter s.heap.objs.size l i ∧ h.IsList l items) 0 ((s.heap.push { cls := .type "list_iterator", data := .fields #[.ref l, .int 0 0] }).push o) := fun o =>
      ⟨⟨_, Heap.get?_push_of_some _ (Heap.get?_push_size _ rfl), rfl, rfl⟩, (hl.push _).push _⟩
    have old : ∀ b o q, s.heap.get? b = some o → ((s.heap.push { cls := .type "list_iterator", data := .fields #[.ref l, .int 0 0] }).push q).get? b = some o ∧ b ∉ [(s.heap.push { cls := .type "list_iterator", data := .fields #[.ref l, .int 0 0] }).objs.size, s.heap.objs.size] := fun b o q e => by
      have hb := Heap.lt_size e
      refine ⟨Heap.get?_push_of_some _ (Heap.get?_push_of_some _ e), fun z => ?_⟩
      rw [hI] at z
      rcases List.mem_cons.mp z with z | z
      · exact absurd z (Nat.ne_of_lt (Nat.lt_succ_of_lt hb))
      · exact absurd (List.mem_singleton.mp z) (Nat.ne_of_lt hb)
    refine wpAny_pure ⟨plainId_quiet PySem.F.plain_max_loop _, codeAny_builtin PySem.F.entry_max_loop ?_⟩
    rw [Around.under_plainId PySem.F.plain_max_loop _]
    refine wpAny_bind (m := seqItems? (.ref _)) (wpAny_seqItems (Heap.get?_push_size _ rfl) rfl ?_)
    cases ns with
    | nil =>
      refine wpAny_bind (m := tryCatch (pyNext (.ref s.heap.objs.size)) _) (wpAny_tryCatch (W.done _ _ _ (st0 _) fun h' tk kp => ?_))
      refine wpAny_bind (wpAny_rule (wpAny_pure ?_))
      exact h td h' tk fun b o e => kp b o (fun z => (old b o { cls := .none } e).2 (List.mem_cons_of_mem _ z)) (old b o _ e).1
    | cons n r =>
      refine wpAny_bind (m := tryCatch (pyNext (.ref s.heap.objs.size)) _) (wpAny_tryCatch (W.item 0 _ _ _ (by simp) (st0 _) fun v h' tk hv st' kp => ?_))
      obtain ⟨u, rfl⟩ := hv
      have hS' := kp _ _ (fun z => hSf (W.sub _ z)) (Heap.get?_push_size _ rfl)
      refine wpAny_bind (m := updateSeq _ (fun _ => #[.int n u, .int n u])) (wpAny_updateSeq hS' rfl ?_)
      rw [hnm]
      refine wpAny_pure ⟨plainId_quiet PySem.F.plain_max_loop _, loop W _ hSf _ _ 1 _ n u rfl (by simp) (W.frame _ _ _ st' fun b hbf o e => ?_) ⟨_, Heap.get?_update_self _ hS' rfl⟩ fun t' h2 tk2 k2 => ?_⟩
      · exact (Heap.get?_update_other _ _ (fun z => hSf (by rw [z]; exact hbf))).trans e
      · refine h t' h2 tk2 fun b o e => k2 b o (old b o { cls := .none } e).2 ((Heap.get?_update_other _ _ (fun z => (old b o { cls := .none } e).2 (by rw [← z]; exact List.mem_cons_self ..))).trans (kp b o (fun z => (old b o { cls := .none } e).2 (List.mem_cons_of_mem _ z)) (old b o _ e).1))
  cases hsig : Manifest.signature? "max" with
  | none => exact wpAny_pure key
  | some sig =>
    have ha := args_max (.ref l) (.int d td)
    simp only [argsOk, hsig] at ha
    show wpAny _ A.in1 (Bind.checkArgs "max" sig ⟨[.ref l], [("default", .int d td)]⟩) _ _ s
    rw [show Bind.checkArgs "max" sig ⟨[.ref l], [("default", .int d td)]⟩ = pure () from ha]
    exact wpAny_pure key
end
end NhMaxD
namespace PL
open PySem L2 Nh
noncomputable def leS (a b : Str) : Bool := decide (a.cps.toList ≤ b.cps.toList)
noncomputable def sortS (ss : List Str) : List Str := ss.mergeSort leS
theorem leS_trans (a b c : Str) (h : leS a b = true) (k : leS b c = true) : leS a c = true := decide_eq_true (List.le_trans (of_decide_eq_true h) (of_decide_eq_true k))
theorem leS_total (a b : Str) : (leS a b || leS b a) = true := by
  rcases List.le_total a.cps.toList b.cps.toList with h | h
  · simp [leS, h]
  · simp [leS, h]
theorem leS_anti {a b : Str} (h : leS a b = true) (k : leS b a = true) : a = b := by
  have e := List.le_antisymm (of_decide_eq_true h) (of_decide_eq_true k)
  cases a; cases b
  simp only at e
  rw [Array.toList_inj.mp e]
theorem rising_le : ∀ (p : Str) (l : List Str), PyProof.Rows.risingS p l = true → (p :: l).Pairwise (fun a b => leS a b = true)
  | p, [], _ => by simp
  | p, x :: r, h => by
    have h' : (!PySem.Spec.ltCps x.cps.toList p.cps.toList && PyProof.Rows.risingS x r) = true := h
    rw [Bool.and_eq_true, PyProof.Rows.ltCps_eq] at h'
    have ih := rising_le x r h'.2
    have hpx : leS p x = true := by
      have := h'.1
      simp only [Bool.not_eq_true', decide_eq_false_iff_not] at this
      exact decide_eq_true this
    refine List.pairwise_cons.mpr ⟨fun y hy => ?_, ih⟩
    rcases List.mem_cons.mp hy with rfl | hy
    · exact hpx
    · exact leS_trans p x y hpx ((List.pairwise_cons.mp ih).1 y hy)
theorem sorted_le : ∀ l : List Str, PyProof.Rows.sortedS l = true → l.Pairwise (fun a b => leS a b = true)
  | [], _ => List.Pairwise.nil
  | x :: r, h => rising_le x r h
theorem sortS_uniq {a b : List Str} (p : a.Perm b) (h : PyProof.Rows.sortedS a = true) : a = sortS b :=
  List.Perm.eq_of_pairwise (fun _ _ _ _ h k => leS_anti h k) (sorted_le a h) (List.pairwise_mergeSort leS_trans leS_total b) (p.trans (List.mergeSort_perm b leS).symm)
theorem sortS_len (ss : List Str) : (sortS ss).length = ss.length := (List.mergeSort_perm ss leS).length_eq
section
variable {X : Cx} {e : Expr} {m1 : Bool} {f : PEv} {p pos : Pos}
theorem valsStrs : ∀ {ss : List Str} {us : List Value}, Vals (ss.map V.str) us → PyProof.Rows.StrsAre us ss
  | [], _, .nil => .nil
  | s :: ss, _, .cons h t => by obtain ⟨tk, rfl⟩ := h; exact .cons _ _ (valsStrs t)
theorem strsVals : ∀ {ss : List Str} {us : List Value}, PyProof.Rows.StrsAre us ss → Vals (ss.map V.str) us
  | [], _, .nil => .nil
  | _ :: _, _, .cons y t h => .cons ⟨t, rfl⟩ (strsVals h)
theorem call_sortedS : CallR X (.builtin "sorted") (fun xs H Q => ∃ (p : Addr) (ss : List Str), xs = [.ref p] ∧ SqL X.K H p (ss.map V.str) ∧ ss.length < 64 ∧ ∀ l, H l = none → Q (.ref l) (upd H l (.lst ((sortS ss).map V.str)))) := by
  intro pins s σ H xs us Q I r h
  obtain ⟨p, ss, rfl, hq, h64, q⟩ := h
  cases r with
  | cons r rr =>
    cases rr
    cases r
    obtain ⟨its, rv, pl, hz⟩ := I.list hq
    have hS := valsStrs rv
    have hl : its.length = ss.length := by have := rv.length; simpa using this.symm
    refine PyProof.Rows.sorted_strs pl.isList hS (by omega) fun out ss' a1 a2 a3 => ?_
    have := sortS_uniq a2 a3
    subst this
    obtain ⟨e, he⟩ := PyProof.Rows.sortedAll_at s.heap its out
    refine ⟨.ref (s.heap.objs.size + 1), _, I.laid (t' := s.toks) (fun b o => PyProof.Rows.sortedAll_old) (Nat.le_succ _) (show ObjOk X.prog X.w _ _ _ (.lst ((sortS ss).map V.str)) from ⟨?_, out.toList, e, strsVals a1, he⟩), rfl, q _ (I.hok.fresh (Nat.le_succ _))⟩
    rw [List.length_map, sortS_len]
    exact smallE (by omega)
noncomputable def strsL : List PyData → Option (List Str)
  | [] => some []
  | .str x :: ds => (strsL ds).map (x :: ·)
  | _ => none
theorem strs_rp {K : PySem.W.Frag} {H : Hp} : ∀ {vs : List V} {ds : List PyData} {bs : List Str}, RpA K H vs ds → strsL ds = some bs → vs = bs.map V.str
  | _, _, bs, .nil, e => by cases e; rfl
  | _, _, bs, .cons (d := d) h t, e => by
    cases d <;> simp [strsL] at e
    obtain ⟨cs, e, rfl⟩ := e
    cases h
    rw [strs_rp t e]
    rfl
theorem strs_rpa {K : PySem.W.Frag} {H : Hp} : ∀ ss : List Str, RpA K H (ss.map V.str) (ss.map PyData.str)
  | [] => .nil
  | s :: ss => .cons (.str s) (strs_rpa ss)
noncomputable def pSorted (g : PEv) : PEv := fun E => (g E).bind fun a => match look a.2 a.1 with
  | some (.list ds) => (strsL ds).bind fun ss => if ss.length < 64 then some (.ow ((sortS ss).map .str), a.2) else none
  | _ => none
theorem xe_sorted (hg : Gl X "sorted") (hm : X.mg "sorted" = none) (ha : EX X e m1 f) (he : starEach [e] X.env = [(false, eval e X.env)] := by rfl) : EX X (.Call (.Name "sorted" p) [e] [] pos) m1 (pSorted f) := by
  refine pe_imp (pe_callB call_sortedS hg hm PyProof.Rows.boot_sorted (pa_cons ha pa_nil he) (by decide) (by decide) he rfl) fun σ H Q z => ?_
  obtain ⟨B, E, xs, Xs, res, E', fr, cl, e, q⟩ := z
  obtain ⟨⟨s, E1⟩, e1, e⟩ := Option.bind_eq_some_iff.mp e
  refine ⟨B, E, xs, Xs, s, E1, fr, cl, e1, fun v1 H1 ⟨F, A, fr1⟩ => ?_⟩
  obtain ⟨A', fr2⟩ := fr1.pop
  simp only at e
  split at e
  · rename_i ds ld
    obtain ⟨ss, es, e⟩ := Option.bind_eq_some_iff.mp e
    split at e
    · rename_i hc
      cases e
      have r := (fr1.look0 ld).1
      cases r with
      | lst h1 h2 =>
        have := strs_rp h2 es
        subst this
        exact ⟨_, ss, rfl, h1, hc, fun l hl => q _ _ ⟨F, _, fr2.newl (strs_rpa _) hl⟩⟩
    · cases e
  · cases e
end
end PL
namespace PL
open PySem L2 Nh
noncomputable def dMulT : PyData → PyData → Option PyData
  | .str a, .int k => if a.length ≤ 1000 ∧ -1000 ≤ k ∧ k ≤ 1000 then some (.str (Txt.mul a k)) else none
  | _, _ => none
noncomputable def pMulS : P2 := sc2 dMulT
noncomputable def rMulT : R2 := fun x y H Q => ∃ a k, x = .str a ∧ y = .int k ∧ a.length ≤ 1000 ∧ -1000 ≤ k ∧ k ≤ 1000 ∧ Q (.str (Txt.mul a k)) H
theorem mulT_len {a : Str} {k : Int} (h1 : a.length ≤ 1000) (h2 : k ≤ 1000) : (Txt.mul a k).length ≤ sizeLine := by
  have e := PyProof.Rows.len_mul a k
  rw [sizeLine_eq]
  by_cases n : k < 0
  · simp only [n, decide_true, if_true, Int.mul_zero] at e
    omega
  · simp only [n, decide_false, Bool.false_eq_true, if_false] at e
    have : (a.length : Int) * k ≤ 1000 * 1000 := Int.mul_le_mul (by omega) h2 (by omega) (by omega)
    omega
theorem op_mulT {X : Cx} : OpR X (binaryOp .Mult) rMulT := by
  intro pins s σ H x y v u Q I rx ry h
  obtain ⟨a, k, rfl, rfl, h1, h2, h3, q⟩ := h
  obtain ⟨t, rfl⟩ := rx
  obtain ⟨u, rfl⟩ := ry
  obtain ⟨o1, o2, o3⟩ := PyProof.Rows.mulOk_of (x := a) (n := k) 1000 1000 h1 h3 (by omega) (by decide) (by decide)
  refine P.mul_str o1 o2 o3 ?_
  have hz := mulT_len h1 h3
  unfold Txt.mul at hz q
  by_cases c1 : k < 1
  · rw [if_pos c1] at hz q ⊢
    exact ⟨hz, .str _, H, I.tok _, ⟨_, rfl⟩, q⟩
  · rw [if_neg c1] at hz q ⊢
    by_cases c2 : (k == 1 || a.length == 0) = true
    · rw [if_pos c2] at hz q ⊢
      exact ⟨.str _, H, I, ⟨_, rfl⟩, q⟩
    · rw [if_neg c2] at hz q ⊢
      exact ⟨hz, .str _, H, I.tok _, ⟨_, rfl⟩, q⟩
section
variable {X : Cx} {K : PySem.W.Frag} {a b : Expr} {m1 m2 : Bool} {f g : PEv} {pos : Pos}
theorem dMulT_ok : ScOk K rMulT dMulT := fun d1 d2 d v1 v2 H Q e r1 r2 => by
  unfold dMulT at e
  split at e
  · split at e
    · rename_i hc
      cases e; cases r1; cases r2
      exact ⟨_, rfl, fun q => ⟨_, _, rfl, rfl, hc.1, hc.2.1, hc.2.2, q⟩⟩
    · cases e
  · cases e
theorem xe_mulS (ha : EX X a m1 f) (hb : EX X b m2 g) : EX X (.BinOp a .Mult b pos) (m1 || m2) (pBin pMulS m2 f g) := xe_op op_mulT (sc2_ok dMulT_ok) ha hb
end
end PL
namespace PL
open PySem L2 Nh
noncomputable def adS (ks : List Str) (x : Str) : List Str := if x ∈ ks then ks else ks ++ [x]
noncomputable def dedS (ss : List Str) : List Str := ss.foldl adS []
noncomputable def sgnS (x : Str) : List Str := x.cps.toList.map fun c => ⟨#[c]⟩
noncomputable def pSortSet (g : PEv) : PEv := fun E => (g E).bind fun a => match look a.2 a.1 with
  | some (.list ds) => (strsL ds).bind fun ss => if ss.length < 4000 ∧ (dedS ss).length < 64 then some (.ow ((sortS (dedS ss)).map .str), a.2) else none
  | some (.str x) => if (sgnS x).length < 4000 ∧ (dedS (sgnS x)).length < 64 then some (.ow ((sortS (dedS (sgnS x))).map .str), a.2) else none
  | _ => none
end PL
namespace NhSet
open PySem PyProof.Rows
structure SS (w : World) (b : Bool) (ks : List Str) (es : Array (Int × Value)) (t : SetTable) : Prop where
  perm : (es.toList.map (fun e => strOf e.2)).Perm ks
  elems : ∀ e ∈ es.toList, ∃ x tk, e = (hashStr w x, Value.str x tk)
  bound : es.size < scanBound
  fits : t.fits es.size = true
  led : t.led = b
  plain : es.size ≠ 0 → t.plain = false
noncomputable abbrev setObj (es : Array (Int × Value)) (ep : Nat) (t : SetTable) : Obj := { cls := .type "set", dict := none, data := .set es ep t }
noncomputable def StrSet (w : World) (h : Heap) (a : Addr) (b : Bool) (ks : List Str) : Prop := ∃ es ep t, h.get? a = some (setObj es ep t) ∧ SS w b ks es t
theorem StrSet.at' {w : World} {h h' : Heap} {a : Addr} {b : Bool} {ks : List Str} (S : StrSet w h a b ks) (e : ∀ o, h.get? a = some o → h'.get? a = some o) : StrSet w h' a b ks :=
  let ⟨es, ep, t, ho, r⟩ := S; ⟨es, ep, t, e _ ho, r⟩
theorem StrSet.obj {w : World} {h : Heap} {a : Addr} {b : Bool} {ks : List Str} (S : StrSet w h a b ks) : ∃ o, h.get? a = some o := let ⟨_, _, _, ho, _⟩ := S; ⟨_, ho⟩
theorem StrSet.typeIs {w : World} {s : Shared} {a : Addr} {b : Bool} {ks : List Str} (S : StrSet w s.heap a b ks) : s.TypeIs (.ref a) "set" := let ⟨_, _, _, ho, _⟩ := S; ⟨_, ho, rfl⟩
theorem SS.elemsOf {prog : Program} {w : World} {b : Bool} {ks : List Str} {es : Array (Int × Value)} {t : SetTable} (S : SS w b ks es t) : ElemsOf (strKind prog w) es.toList := fun e he => by
  obtain ⟨x, tk, rfl⟩ := S.elems e he
  exact ⟨⟨x, by simp [PySem.strKind, Value.isStrOf], rfl⟩, rfl⟩
theorem SS.len {w : World} {b : Bool} {ks : List Str} {es : Array (Int × Value)} {t : SetTable} (S : SS w b ks es t) : es.size = ks.length := by
  have := S.perm.length_eq; simpa using this
theorem SS.mem {w : World} {b : Bool} {ks : List Str} {es : Array (Int × Value)} {t : SetTable} (S : SS w b ks es t) (x : Str) : x ∈ ks ↔ ∃ e ∈ es.toList, Value.isStrOf x e.2 = true := by
  rw [← S.perm.mem_iff, List.mem_map]
  constructor
  · rintro ⟨e, he, rfl⟩
    obtain ⟨y, tk, rfl⟩ := S.elems e he
    exact ⟨_, he, by simp [Value.isStrOf, strOf]⟩
  · rintro ⟨e, he, hx⟩
    obtain ⟨y, tk, rfl⟩ := S.elems e he
    have : y = x := by simpa [Value.isStrOf] using hx
    exact ⟨_, he, by simp [strOf, this]⟩
theorem SetTable.orStandIn_led (t : SetTable) (n : Nat) : (t.orStandIn n).led = t.led := by
  unfold SetTable.orStandIn; split <;> rfl
theorem layNew_led (t : SetTable) (es : Array (Int × Value)) (h : Int) (x : Value) : (layNew t es h x).2.1.led = t.led := by
  unfold layNew
  split
  · exact SetTable.orStandIn_led _ _
  · rfl
theorem laid_marks {mask finger moves : Nat} {led plain : Bool} {hashes : Array Int} {t' : SetTable} {order : Array Nat} (h : SetTable.laid mask finger moves led plain hashes = some (t', order)) : t'.led = led ∧ t'.plain = plain := by
  unfold SetTable.laid at h
  cases hc : SetTable.layClean mask hashes with
  | none => rw [hc] at h; simp at h
  | some ow => rw [hc] at h; simp at h; rw [← h.1]; exact ⟨rfl, rfl⟩
theorem relayAll_marks (t : SetTable) (es : Array (Int × Value)) (wanted : Nat) (hp : t.plain = false) : (relayAll t es wanted).2.1.led = t.led ∧ (relayAll t es wanted).2.1.plain = false := by
  unfold relayAll
  split
  · rename_i t' order hr
    dsimp only
    split
    · have := laid_marks hr
      exact ⟨this.1, this.2.trans hp⟩
    · exact ⟨rfl, rfl⟩
  · exact ⟨rfl, rfl⟩
section
variable {prog : Program} {w : World} {A : Around} {E : Value → Shared → Prop} {s : Shared}
theorem putSet_setObj (es es' : Array (Int × Value)) (ep : Nat) (t t' : SetTable) : Obj.putSet es' t' (setObj es ep t) = setObj es' (ep + 1) t' := rfl
theorem store_at {h : Heap} {a : Addr} {es es' : Array (Int × Value)} {ep : Nat} {t t' : SetTable} (ho : h.get? a = some (setObj es ep t)) : (h.update a (Obj.putSet es' t')).get? a = some (setObj es' (ep + 1) t') :=
  Heap.get?_update_self (Obj.putSet es' t') ho (by rw [putSet_setObj]; rfl)
theorem addTail {g : Bool → Sem Unit} (hg : ∀ (b : Bool) (s₁ : Shared) (Q' : Unit → Shared → Prop), Q' () s₁ → wpAny (model prog w) A (g b) Q' E s₁)
    {a : Addr} {es : Array (Int × Value)} {ep : Nat} {t : SetTable} (ho : s.heap.get? a = some (setObj es ep t))
    {es1 : Array (Int × Value)} {t2 : SetTable} {b : Bool} {ks : List Str} (S : SS w b ks es1 t2) (hp : t2.plain = false) {wasDummy : Bool} {R : Option Bool → Shared → Prop}
    (h : ∀ h', Heap.SameBut a s.heap h' → StrSet w h' a b ks → R (some true) { s with heap := h' }) :
    wpAny (model prog w) A (do
        storeSet a es1 t2
        if (!wasDummy && t2.tooFull) = true then do
            g (relayAll t2 es1 (SetTable.grown es1.size)).2.2
            storeSet a (relayAll t2 es1 (SetTable.grown es1.size)).1 (relayAll t2 es1 (SetTable.grown es1.size)).2.1
            pure (some true)
          else pure (some true)) R E s := by
  refine wpAny_bind (wpAny_storeSet_of ho rfl ?_ (fits_of_scanBound S.bound))
  have ho1 := store_at (es' := es1) (t' := t2) ho
  have hsb1 := Heap.SameBut.update s.heap a (Obj.putSet es1 t2)
  split
  · have hpm := relayAll_perm t2 es1 (SetTable.grown es1.size)
    have hfr := relayAll_fits t2 es1 (SetTable.grown es1.size)
    have hmk := relayAll_marks t2 es1 (SetTable.grown es1.size) hp
    generalize hRl : relayAll t2 es1 (SetTable.grown es1.size) = Rl at hpm hfr hmk ⊢
    obtain ⟨es2, t3, gave2⟩ := Rl
    dsimp only at hpm hfr hmk ⊢
    have hsz : es2.size = es1.size := by rw [← Array.length_toList, hpm.length_eq, Array.length_toList]
    have hb2 : es2.size < scanBound := by rw [hsz]; exact S.bound
    have S2 : SS w b ks es2 t3 := ⟨(hpm.map _).trans S.perm, fun e he => S.elems e (hpm.mem_iff.mp he), hb2, hfr, hmk.1.trans S.led, fun _ => hmk.2⟩
    refine wpAny_bind (hg _ _ _ ?_)
    refine wpAny_bind (wpAny_storeSet_of ho1 rfl ?_ (fits_of_scanBound hb2))
    exact wpAny_pure (h _ (hsb1.trans (Heap.SameBut.update _ a _)) ⟨es2, _, t3, store_at ho1, S2⟩)
  · exact wpAny_pure (h _ hsb1 ⟨es1, _, t2, ho1, S⟩)
noncomputable def addS (ks : List Str) (x : Str) : List Str := if x ∈ ks then ks else ks ++ [x]
theorem setAddHashed_str {a : Addr} {b : Bool} {ks : List Str} {x : Str} {tk : Tok} {Q : Bool → Shared → Prop} (hS : StrSet w s.heap a b ks) (hroom : ks.length + 1 < scanBound)
    (h : ∀ (r : Bool) h', Heap.SameBut a s.heap h' → StrSet w h' a b (addS ks x) → Q r { s with heap := h' }) :
    wpAny (model prog w) A (setAddHashed a (.str x tk) (hashStr w x)) Q E s := by
  obtain ⟨es, ep, t, ho, S⟩ := hS
  have hb1 : es.size + 1 < scanBound := by rw [S.len]; exact hroom
  have hel := S.elemsOf (prog := prog)
  have hkey : (strKind prog w).is x (.str x tk) = true := by simp [PySem.strKind, Value.isStrOf]
  unfold setAddHashed setAddHashedIn
  refine wpAny_holding (wpAny_bind (wpAny_setState_of ho rfl S.fits ?_))
  dsimp only
  rw [byScan_of (knd := strKind prog w) (x := .str x tk) rfl S.bound hel]
  simp only [↓reduceIte]
  unfold setAddByScan
  refine wpAny_bind ?_
  refine wpAny_bind (wpAny_rule ?_)
  refine wpAny_bind (wpAny_setScan_of (knd := strKind prog w) hkey ho rfl S.fits hel ?_)
  cases hr : List.findIdx? (fun e => (strKind prog w).is x e.2) es.toList with
  | some j =>
    dsimp only
    obtain ⟨hj, hpj, _⟩ := List.findIdx?_eq_some_iff_getElem.mp hr
    have hk : x ∈ ks := (S.mem x).mpr ⟨es.toList[j], List.getElem_mem hj, hpj⟩
    refine wpAny_pure (wpAny_pure ?_)
    have e : s = { s with heap := s.heap } := by cases s; rfl
    rw [e]
    exact h _ s.heap (Heap.SameBut.refl a s.heap) (by rw [addS, if_pos hk]; exact ⟨es, ep, t, ho, S⟩)
  | none =>
    dsimp only
    have hk : x ∉ ks := fun hk => by
      obtain ⟨e, he, hp⟩ := (S.mem x).mp hk
      have := List.findIdx?_eq_none_iff.mp hr e he
      rw [show (strKind prog w).is x e.2 = true from hp] at this; exact Bool.noConfusion this
    have hgw : ∀ (b : Bool) {s₁ : Shared} {Q' : Unit → Shared → Prop}, Q' () s₁ → wpAny (model prog w) A (match b with | true => rule "set.scan.the-table-gave-way" | false => pure ()) Q' E s₁ :=
      fun b s₁ Q' hq => by cases b <;> first | exact wpAny_pure hq | exact wpAny_rule hq
    have hperm := layNew_perm t es (hashStr w x) (.str x tk)
    have hfits := layNew_fits t es (hashStr w x) (.str x tk)
    have hled := layNew_led t es (hashStr w x) (.str x tk)
    generalize hL : layNew t es (hashStr w x) (.str x tk) = L at hperm hfits hled ⊢
    obtain ⟨es1, t1, wasDummy, gave⟩ := L
    dsimp only at hperm hfits hled ⊢
    rw [Array.toList_push] at hperm
    have hb1' : es1.size < scanBound := by rw [← Array.length_toList, hperm.length_eq, List.length_append, Array.length_toList]; simpa using hb1
    have hpm : (es1.toList.map (fun e => strOf e.2)).Perm (ks ++ [x]) := (hperm.map _).trans (by rw [List.map_append]; exact S.perm.append_right _)
    have hel1 : ∀ e ∈ es1.toList, ∃ x tk, e = (hashStr w x, Value.str x tk) := fun e he => by
      rcases List.mem_append.mp (hperm.mem_iff.mp he) with z | z
      · exact S.elems e z
      · exact ⟨x, tk, List.mem_singleton.mp z⟩
    refine wpAny_bind (hgw _ ?_)
    split
    · refine wpAny_bind ?_
      rw [hashByValue_scannable 8 (x := .str x tk) rfl]
      refine wpAny_pure ?_
      simp only [plainKind, Bool.false_eq_true, ↓reduceIte]
      refine addTail ?_ ho (t2 := { t1 with plain := false }) (ks := addS ks x) (b := b) ⟨by rw [addS, if_neg hk]; exact hpm, hel1, hb1', SetTable.fits_plain_off hfits, hled.trans S.led, fun _ => rfl⟩ rfl ?_
      · intro b s₁ Q' hq; cases b <;> first | exact wpAny_pure hq | exact wpAny_rule hq
      · intro h' hsb hS'; dsimp only; exact wpAny_pure (h _ h' hsb hS')
    · rename_i hpl
      refine wpAny_bind (wpAny_pure ?_)
      simp only [↓reduceIte]
      have hpl' : t1.plain = false := by simpa using hpl
      refine addTail ?_ ho (ks := addS ks x) (b := b) ⟨by rw [addS, if_neg hk]; exact hpm, hel1, hb1', hfits, hled.trans S.led, fun _ => hpl'⟩ hpl' ?_
      · intro b s₁ Q' hq; cases b <;> first | exact wpAny_pure hq | exact wpAny_rule hq
      · intro h' hsb hS'; dsimp only; exact wpAny_pure (h _ h' hsb hS')
end
noncomputable def metS (val : Nat → Str) (i : Nat) : List Str := ((List.range i).map val).foldl addS []
theorem metS_succ (val : Nat → Str) (i : Nat) : metS val (i + 1) = addS (metS val i) (val i) := by
  unfold metS; rw [List.range_succ, List.map_append, List.foldl_append]; rfl
theorem addS_len (ks : List Str) (x : Str) : (addS ks x).length ≤ ks.length + 1 := by
  unfold addS; split
  · omega
  · simp
theorem metS_len (val : Nat → Str) : ∀ i, (metS val i).length ≤ i
  | 0 => Nat.le_refl _
  | i + 1 => by rw [metS_succ]; have := metS_len val i; have := addS_len (metS val i) (val i); omega
section
variable {prog : Program} {w : World} {A : Around} {R : Result → Shared → Prop} {I : Addr} {fp wr : List Addr} {G : Array GenState → Array GenState → Prop} {n : Nat} {P : Nat → Value → Prop} {St : Nat → Shared → Prop}
theorem update_loop (W : WalksS prog w A.in1 I fp wr G n P St) (S : Addr) (hSf : S ∉ fp) (b : Bool)
    (val : Nat → Str) (hval : ∀ i v, P i v → ∃ t, v = .str (val i) t) (hb : n + 1 < scanBound) :
    ∀ (k i : Nat) (s : Shared), n - i = k → i ≤ n → St i s → StrSet w s.heap S b (metS val i) →
      (∀ s', Moved (S :: wr) G s s' → StrSet w s'.heap S b (metS val n) → R (.ok (.ret .none)) s') →
      codeAny (model prog w) A (.builtin "set.update.loop" ⟨[.ref S, .ref I], []⟩) R s := by
  have hSw : S ∉ wr := fun h => hSf (W.sub _ h)
  have hsub : ∀ b ∈ wr, b ∈ S :: wr := fun b hb => List.mem_cons_of_mem _ hb
  intro k
  induction k with
  | zero =>
    intro i s hk hi hst hS hR
    have hin : i = n := by omega
    subst hin
    refine codeAny_builtin PyProof.Rows.F.entry_set_update_loop ?_
    rw [Around.under_plainId PyProof.Rows.F.plain_set_update_loop _]
    show wpAny _ A.in1 (pyNext (.ref I) >>= _) _ _ s
    refine wpAny_bind (W.done s _ _ hst fun s' hm => ?_)
    show wpAny _ A.in1 (ret Value.none) _ _ s'
    exact wpAny_pure (hR s' (hm.mono hsub) (hS.at' fun o e => hm.heap S o hSw e))
  | succ k ih =>
    intro i s hk hi hst hS hR
    have hlt : i < n := by omega
    refine codeAny_builtin PyProof.Rows.F.entry_set_update_loop ?_
    rw [Around.under_plainId PyProof.Rows.F.plain_set_update_loop _]
    show wpAny _ A.in1 (pyNext (.ref I) >>= _) _ _ s
    refine wpAny_bind (W.item i s _ _ hlt hst fun v s' hP hst' hm => ?_)
    obtain ⟨t, rfl⟩ := hval i v hP
    have hS' : StrSet w s'.heap S b (metS val i) := hS.at' fun o e => hm.heap S o hSw e
    show wpAny _ A.in1 (holding [Value.str (val i) t] (setAdd S (.str (val i) t)) >>= _) _ _ s'
    refine wpAny_bind (wpAny_holding ?_)
    unfold setAdd
    refine wpAny_holding ?_
    refine wpAny_bind (wpAny_pyHash_str ?_)
    have hroom : (metS val i).length + 1 < scanBound := by have := metS_len val i; omega
    refine setAddHashed_str (s := { s' with toks := s'.toks + 1 }) hS' hroom fun r h' hsb hS2 => ?_
    refine wpAny_pure ⟨plainId_quiet PyProof.Rows.F.plain_set_update_loop _, ih (i + 1) _ (by omega) hlt (W.frame _ s' _ _ hst' (Nat.le_succ _) fun b hb o e => ?_) (by rw [metS_succ]; exact hS2) fun s'' hm'' hS'' => ?_⟩
    · rw [hsb.2 b (fun h : b = S => hSf (by rw [← h]; exact hb))]; exact e
    · refine hR s'' (Moved.trans W.gtrans ((hm.mono hsub).then_heap (Nat.le_succ _) fun b o hb e => ?_) hm'') hS''
      rw [hsb.2 b (fun h : b = S => hb (by rw [h]; exact List.mem_cons_self))]; exact e
end
theorem strSet_fresh (w : World) (led : Bool) : SS w led [] #[] (.fresh 0 0 led) := ⟨by simp, fun e he => by simp at he, by decide, by rfl, rfl, fun h => absurd rfl h⟩
noncomputable def ledOf (w : World) : Bool := !w.params.followText "set-order"
section
variable {prog : Program} {w : World} {A : Around} {E : Value → Shared → Prop} {s : Shared}
theorem code_new (a : Value) {Q₁ : Value → Shared → Prop}
    (h : Q₁ (.ref s.heap.objs.size) { s with heap := s.heap.push (setObj #[] 0 (.fresh 0 0 (ledOf w))) }) :
    codeAny (model prog w) A (.call (.builtin "set.__new__") ⟨[.type "set", a], []⟩) (wants Q₁ E) s := by
  refine codeAny_of_tree ?_
  show wpAny _ A.in1 (do checkBuiltinCall "set.__new__" ⟨[.type "set", a], []⟩; again (.builtin "set.__new__" ⟨[.type "set", a], []⟩)) _ _ s
  refine wpAny_bind (wpAny_of_eq (PySem.F.newCall_set_1 a) (wpAny_pure ⟨plainId_quiet PySem.F.plain_set_new _, codeAny_builtin PySem.F.entry_set_new ?_⟩))
  rw [Around.under_plainId PySem.F.plain_set_new _]
  unfold Builtin.«set.__new__» Builtin.Frozenset.newClass
  have hsub := sub_set_self
  obtain ⟨hp, g, d, tk, os⟩ := s
  dsimp only
  wp_walk
  refine wpAny_askSetting (wpAny_pure ?_)
  dsimp only
  simp only [newObj]
  refine wpAny_bind (wpAny_alloc (wpAny_pure ?_))
  exact wpAny_pure h
end
end NhSet
namespace NhSet
open PySem PyProof.Rows
namespace F
theorem sub_str_set : isSubtype (.type "str") (.type "set") = pure false := by rw [isSubtype_type]; kernel_rfl
theorem sub_str_frozenset : isSubtype (.type "str") (.type "frozenset") = pure false := by rw [isSubtype_type]; kernel_rfl
end F
section
variable {prog : Program} {w : World} {A : Around} {E : Value → Shared → Prop} {s : Shared}
theorem strs_at : ∀ {vs : List Value} {ns : List Str}, StrsAre vs ns → ∀ (i : Nat) (v : Value), vs[i]? = some v → ∃ t, v = .str (ns.getD i ⟨#[]⟩) t
  | _, _, .nil, i, v, h => by simp at h
  | _, _, .cons n t hr, 0, v, h => by simp at h; exact ⟨t, by rw [← h]; rfl⟩
  | _, _, .cons n t hr, i + 1, v, h => by
    simp only [List.getElem?_cons_succ] at h
    obtain ⟨t', e⟩ := strs_at hr i v h
    exact ⟨t', by rw [e]; rfl⟩
set_option maxHeartbeats 4000000 in
theorem call_list {l : Addr} {items : Array Value} {ns : List Str} {Q : Value → Shared → Prop}
    (hh : A.handled = none) (hl : s.heap.IsList l items) (hi : StrsAre items.toList ns) (hb : items.size + 1 < scanBound)
    (h : ∀ (h' : Heap) (tk : Nat), StrSet w h' s.heap.objs.size (ledOf w) (metS (fun i => ns.getD i ⟨#[]⟩) items.size) →
      (∀ b o, b < s.heap.objs.size → s.heap.get? b = some o → h'.get? b = some o) → Q (.ref s.heap.objs.size) { s with heap := h', toks := tk }) :
    wpAny (model prog w) A (call (.type "set") [.ref l]) Q E s := by
  obtain ⟨c, tl, hmro⟩ := PySem.F.called_set.mro
  have hmade := PySem.F.called_set.made
  have hsub := PySem.F.called_set.sub
  refine wpAny_call (codeAny_of_tree ?_)
  show wpAny _ _ (callAny (.type "set") _) _ _ _
  refine wpAny_pure ⟨Code.quiet_builtin _ (by decide +kernel), codeAny_builtin PySem.F.entry_type_call ?_⟩
  rw [Around.under_plain (weight_type_call_type "set" [.ref l] []) rfl]
  have h1 := PySem.F.called_set.notType
  have h2 := PySem.F.called_set.canCreate
  have hct := PySem.F.typeCall_set_1 (.ref l)
  repeat (any_goals (first | assumption | wp_step))
  generalize hled : ledOf w = led at h
  refine codeAny_mono (code_new (w := w) (.ref l) (E := E) (Q₁ := fun obj s₁ => obj = .ref s.heap.objs.size ∧ s₁ = { s with heap := s.heap.push { cls := .type "set", dict := none, data := .set #[] 0 (.fresh 0 0 led) } }) (by rw [hled]; exact ⟨rfl, rfl⟩)) fun r s₁ hr => ?_
  cases r with
  | error e => exact hr
  | ok fl =>
    cases fl with
    | ret obj =>
      obtain ⟨rfl, rfl⟩ := hr
      have hS : (s.heap.push { cls := .type "set", dict := none, data := .set #[] 0 (.fresh 0 0 led) }).get? s.heap.objs.size = some { cls := .type "set", dict := none, data := .set #[] 0 (.fresh 0 0 led) } := Heap.get?_push_size _ rfl
      have hT : Shared.TypeIs { s with heap := s.heap.push { cls := .type "set", dict := none, data := .set #[] 0 (.fresh 0 0 led) } } (.ref s.heap.objs.size) "set" := ⟨_, hS, rfl⟩
      have hli := PySem.F.called_set.init.lookup
      have hbi := PySem.F.called_set.init.bind (.ref s.heap.objs.size)
      repeat (any_goals (first | assumption | wp_step))
      refine codeAny_mono (codeAny_call_builtin (R := wants (fun r s₂ => r = .none ∧ ∃ h' tk, s₂ = { s with heap := h', toks := tk } ∧
          StrSet w h' s.heap.objs.size led (metS (fun i => ns.getD i ⟨#[]⟩) items.size) ∧
          (∀ b o, b < s.heap.objs.size → s.heap.get? b = some o → h'.get? b = some o)) E) PySem.F.called_set.init.plain PySem.F.entry_set_init (check_set_init_1 hT ?_)) fun r₂ s₂ hr₂ => ?_
      · obtain ⟨ol, hol, hcl, nl, hdl⟩ := hl
        obtain ⟨ocls, odict, odata, oslots⟩ := ol
        simp only at hcl hdl
        subst hcl; subst hdl
        have hol' : (s.heap.push { cls := .type "set", dict := none, data := .set #[] 0 (.fresh 0 0 led) }).get? l = some { cls := .type "list", dict := odict, data := .seq items nl, slots := oslots } := Heap.get?_push_of_some _ hol
        have hsls := PySem.F.sub_list_set
        have hslf := PySem.F.sub_list_frozenset
        have hne : (Value.type "list" == Value.type "dict") = false := by decide
        have hl1 : (s.heap.push { cls := .type "set", dict := none, data := .set #[] 0 (.fresh 0 0 led) }).IsList l items := ⟨_, hol', rfl, nl, rfl⟩
        unfold Builtin.«set.__init__» noKeywords Builtin.Frozenset.updateFrom
        generalize hPI : pyIter = PI
        wp_walk
        subst hPI
        refine wpAny_pyIter_list hl1 ?_
        refine wpAny_bind (wpAny_runValue ?_)
        have hlS : l < s.heap.objs.size := Heap.lt_size hol
        have hh3 : A.in1.in1.in1.handled = none := by simp [hh]
        have hneI : l ≠ (s.heap.push { cls := .type "set", dict := none, data := .set #[] 0 (.fresh 0 0 led) }).objs.size := by
          rw [Heap.size_push]; exact Nat.ne_of_lt (Nat.lt_succ_of_lt hlS)
        have hSf : s.heap.objs.size ∉ [(s.heap.push { cls := .type "set", dict := none, data := .set #[] 0 (.fresh 0 0 led) }).objs.size, l] := by
          rw [Heap.size_push]; simp only [List.mem_cons, List.mem_singleton, List.not_mem_nil, or_false, not_or]
          exact ⟨Nat.ne_of_lt (Nat.lt_succ_self _), Nat.ne_of_gt hlS⟩
        have hval : ∀ (i : Nat) (v : Value), items[i]? = some v → ∃ t, v = .str ((fun i => ns.getD i ⟨#[]⟩) i) t := fun i v hv =>
          strs_at hi i v (by rw [Array.getElem?_toList]; exact hv)
        refine update_loop ((Walks.list hh3 _ l hneI items).toS) s.heap.objs.size
          hSf led (fun i => ns.getD i ⟨#[]⟩) hval hb (items.size - 0) 0 _ (by omega) (Nat.zero_le _)
          ⟨⟨_, Heap.get?_push_size _ rfl, rfl, rfl⟩, (hl1.push _)⟩ ?hS0 ?hR
        case hS0 =>
          have hget : ((s.heap.push { cls := .type "set", dict := none, data := .set #[] 0 (.fresh 0 0 led) }).push { cls := .type "list_iterator", data := .fields #[.ref l, .int 0 0] }).get? s.heap.objs.size
              = some { cls := .type "set", dict := none, data := .set #[] 0 (.fresh 0 0 led) } := Heap.get?_push_of_some _ hS
          exact ⟨_, _, _, hget, strSet_fresh w led⟩
        case hR =>
          intro s' hm hS'
          obtain ⟨h', g', d', tk', os'⟩ := s'
          have eg : g' = s.gens := hm.gens
          have ed : d' = s.drawn := hm.drawn
          have eo : os' = s.os := hm.os
          subst eg; subst ed; subst eo
          show wpAny _ _ _ _ _ _
          refine wpAny_pure ?_
          show wpAny _ _ (ret Value.none) _ _ _
          refine wpAny_pure ⟨rfl, h', tk', rfl, hS', fun b o hb e => ?_⟩
          have hb1 : b ≠ s.heap.objs.size := Nat.ne_of_lt hb
          have hb2 : b ≠ (s.heap.push { cls := .type "set", dict := none, data := .set #[] 0 (.fresh 0 0 led) }).objs.size := by
            rw [Heap.size_push]; exact Nat.ne_of_lt (Nat.lt_succ_of_lt hb)
          exact hm.heap b o (by simp only [List.mem_cons, List.mem_singleton, List.not_mem_nil, or_false, not_or]; exact ⟨hb1, hb2⟩) (Heap.get?_push_of_some _ (Heap.get?_push_of_some _ e))
      · cases r₂ with
        | error e => exact hr₂
        | ok fl₂ =>
          cases fl₂ with
          | ret r =>
            obtain ⟨rfl, h', tk, rfl, hS', hk'⟩ := hr₂
            repeat (any_goals (first | assumption | wp_step))
            exact h _ _ hS' hk'
          | _ => exact hr₂.elim
    | _ => exact hr.elim
noncomputable def signOf (x : Str) (i : Nat) : Str := ⟨#[x.cps.getD i 0]⟩
set_option maxHeartbeats 4000000 in
theorem call_str {x : Str} {t : Tok} {Q : Value → Shared → Prop}
    (hh : A.handled = none) (hb : x.cps.size + 1 < scanBound)
    (h : ∀ (h' : Heap) (tk : Nat), StrSet w h' s.heap.objs.size (ledOf w) (metS (signOf x) x.cps.size) →
      (∀ b o, b < s.heap.objs.size → s.heap.get? b = some o → h'.get? b = some o) → Q (.ref s.heap.objs.size) { s with heap := h', toks := tk }) :
    wpAny (model prog w) A (call (.type "set") [.str x t]) Q E s := by
  obtain ⟨c, tl, hmro⟩ := PySem.F.called_set.mro
  have hmade := PySem.F.called_set.made
  have hsub := PySem.F.called_set.sub
  refine wpAny_call (codeAny_of_tree ?_)
  show wpAny _ _ (callAny (.type "set") _) _ _ _
  refine wpAny_pure ⟨Code.quiet_builtin _ (by decide +kernel), codeAny_builtin PySem.F.entry_type_call ?_⟩
  rw [Around.under_plain (weight_type_call_type "set" [.str x t] []) rfl]
  have h1 := PySem.F.called_set.notType
  have h2 := PySem.F.called_set.canCreate
  have hct := PySem.F.typeCall_set_1 (.str x t)
  repeat (any_goals (first | assumption | wp_step))
  generalize hled : ledOf w = led at h
  refine codeAny_mono (code_new (w := w) (.str x t) (E := E) (Q₁ := fun obj s₁ => obj = .ref s.heap.objs.size ∧ s₁ = { s with heap := s.heap.push { cls := .type "set", dict := none, data := .set #[] 0 (.fresh 0 0 led) } }) (by rw [hled]; exact ⟨rfl, rfl⟩)) fun r s₁ hr => ?_
  cases r with
  | error e => exact hr
  | ok fl =>
    cases fl with
    | ret obj =>
      obtain ⟨rfl, rfl⟩ := hr
      have hS : (s.heap.push { cls := .type "set", dict := none, data := .set #[] 0 (.fresh 0 0 led) }).get? s.heap.objs.size = some { cls := .type "set", dict := none, data := .set #[] 0 (.fresh 0 0 led) } := Heap.get?_push_size _ rfl
      have hT : Shared.TypeIs { s with heap := s.heap.push { cls := .type "set", dict := none, data := .set #[] 0 (.fresh 0 0 led) } } (.ref s.heap.objs.size) "set" := ⟨_, hS, rfl⟩
      have hli := PySem.F.called_set.init.lookup
      have hbi := PySem.F.called_set.init.bind (.ref s.heap.objs.size)
      repeat (any_goals (first | assumption | wp_step))
      refine codeAny_mono (codeAny_call_builtin (R := wants (fun r s₂ => r = .none ∧ ∃ h' tk, s₂ = { s with heap := h', toks := tk } ∧
          StrSet w h' s.heap.objs.size led (metS (signOf x) x.cps.size) ∧
          (∀ b o, b < s.heap.objs.size → s.heap.get? b = some o → h'.get? b = some o)) E) PySem.F.called_set.init.plain PySem.F.entry_set_init (check_set_init_1 hT ?_)) fun r₂ s₂ hr₂ => ?_
      · have hsls := F.sub_str_set
        have hslf := F.sub_str_frozenset
        have hne : (Value.type "str" == Value.type "dict") = false := by decide
        have hTx : Shared.TypeIs { s with heap := s.heap.push { cls := .type "set", dict := none, data := .set #[] 0 (.fresh 0 0 led) } } (.str x t) "str" := rfl
        unfold Builtin.«set.__init__» noKeywords Builtin.Frozenset.updateFrom
        generalize hPI : pyIter = PI
        wp_walk
        subst hPI
        refine wpAny_pyIter_str fun o St W hst => ?_
        refine wpAny_bind (wpAny_runValue ?_)
        have hh3 : A.in1.in1.in1.handled = none := by simp [hh]
        have hSf : s.heap.objs.size ∉ [(s.heap.push { cls := .type "set", dict := none, data := .set #[] 0 (.fresh 0 0 led) }).objs.size] := by
          rw [Heap.size_push]; simp only [List.mem_cons, List.mem_singleton, List.not_mem_nil, or_false, not_or]
          exact Nat.ne_of_lt (Nat.lt_succ_self _)
        have hval : ∀ (i : Nat) (v : Value), SignAt x i v → ∃ t, v = .str (signOf x i) t := fun i v ⟨c, u, hc, hv⟩ => ⟨u, by rw [hv]; simp [signOf, Array.getD_eq_getD_getElem?, hc]⟩
        refine update_loop ((W _ hh3).toS) s.heap.objs.size
          hSf led (signOf x) hval hb (x.cps.size - 0) 0 _ (by omega) (Nat.zero_le _) hst ?hS0 ?hR
        case hS0 => exact ⟨_, _, _, Heap.get?_push_of_some _ hS, strSet_fresh w led⟩
        case hR =>
          intro s' hm hS'
          obtain ⟨h', g', d', tk', os'⟩ := s'
          have eg : g' = s.gens := hm.gens
          have ed : d' = s.drawn := hm.drawn
          have eo : os' = s.os := hm.os
          subst eg; subst ed; subst eo
          show wpAny _ _ _ _ _ _
          refine wpAny_pure ?_
          show wpAny _ _ (ret Value.none) _ _ _
          refine wpAny_pure ⟨rfl, h', tk', rfl, hS', fun b o hb e => ?_⟩
          have hb1 : b ≠ s.heap.objs.size := Nat.ne_of_lt hb
          have hb2 : b ≠ (s.heap.push { cls := .type "set", dict := none, data := .set #[] 0 (.fresh 0 0 led) }).objs.size := by
            rw [Heap.size_push]; exact Nat.ne_of_lt (Nat.lt_succ_of_lt hb)
          exact hm.heap b o (by simp only [List.mem_cons, List.mem_singleton, List.not_mem_nil, or_false, not_or]; exact ⟨hb1, hb2⟩) (Heap.get?_push_of_some _ (Heap.get?_push_of_some _ e))
      · cases r₂ with
        | error e => exact hr₂
        | ok fl₂ =>
          cases fl₂ with
          | ret r =>
            obtain ⟨rfl, h', tk, rfl, hS', hk'⟩ := hr₂
            repeat (any_goals (first | assumption | wp_step))
            exact h _ _ hS' hk'
          | _ => exact hr₂.elim
    | _ => exact hr.elim
end
end NhSet
namespace NhSet
open PySem PyProof.Rows
theorem erase_perm {α : Type} : ∀ {l : List α} {i : Nat} (h : i < l.length), (l[i] :: l.eraseIdx i).Perm l
  | x :: xs, 0, h => List.Perm.refl _
  | x :: xs, i + 1, h => by
    have := erase_perm (l := xs) (i := i) (by simpa using h)
    simp only [List.getElem_cons_succ, List.eraseIdx_cons_succ]
    exact (List.Perm.swap x _ _).trans (this.cons x)
theorem pick_perm {α : Type} (next : Nat → Nat) : ∀ (fuel k : Nat) (left : List α) (out : Array α), left.length = fuel → (pickOrder.go next fuel k left out).toList.Perm (out.toList ++ left)
  | 0, k, left, out, h => by
    have : left = [] := List.length_eq_zero_iff.mp h
    subst this; simp [pickOrder.go]
  | fuel + 1, k, left, out, h => by
    unfold pickOrder.go
    have hlt : next k % left.length < left.length := Nat.mod_lt _ (by omega)
    rw [List.getElem?_eq_getElem hlt]
    dsimp only
    refine (pick_perm next fuel (k + 1) _ _ (by rw [List.length_eraseIdx_of_lt hlt]; omega)).trans ?_
    rw [Array.toList_push, List.append_assoc]
    exact (erase_perm hlt).append_left _
theorem pickOrder_perm {α : Type} (next : Nat → Nat) (xs : Array α) : (pickOrder next xs).toList.Perm xs.toList := by
  have := pick_perm next xs.size 0 xs.toList #[] (by simp)
  simpa [pickOrder] using this
section
variable {M : Model} {A : Around} {E : Value → Shared → Prop}
theorem wpAny_choose {src : Source} {n : Nat} {s : Shared} {Q : Nat → Shared → Prop} (hn : n ≠ 0) (h : ∀ i d, i < n → Q i { s with drawn := d }) : wpAny M A (choose src n) Q E s := fun Γ p hΓ => by
  show Sem.wp M Γ (.choose src n .pure) _ _ p s
  rw [Sem.wp_choose]
  exact ⟨hn, by rw [Sem.wp_pure]; exact h _ _ (Nat.mod_lt _ (Nat.pos_of_ne_zero hn))⟩
theorem wpAny_drawOrder {α : Type} : ∀ (n : Nat) (xs : List α) (s : Shared) {Q : List α → Shared → Prop}, xs.length = n → (∀ ys d, ys.Perm xs → Q ys { s with drawn := d }) → wpAny M A (drawOrder n xs) Q E s
  | 0, xs, s, Q, hl, h => by
    have : xs = [] := List.length_eq_zero_iff.mp hl
    subst this
    exact wpAny_pure (h [] s.drawn (List.Perm.refl _))
  | n + 1, [], s, Q, hl, h => by simp at hl
  | n + 1, x :: xs, s, Q, hl, h => by
    show wpAny M A (choose .order (x :: xs).length >>= _) Q E s
    refine wpAny_bind (wpAny_choose (by simp) fun i d hi => ?_)
    rw [List.getElem?_eq_getElem hi]
    dsimp only
    refine wpAny_bind (wpAny_drawOrder n _ _ (by rw [List.length_eraseIdx_of_lt hi]; simpa using hl) fun ys d' hp => ?_)
    exact wpAny_pure (h _ d' ((hp.cons _).trans (erase_perm hi)))
end
namespace F
theorem entry_set_iter : entryFor table "set.__iter__" = some Builtin.«frozenset.__iter__» :=
  entryFor_alias (id' := "frozenset.__iter__") (by kernel_rfl) rfl (by decide +kernel) (by kernel_rfl)
theorem slot_next : Slot "set_iterator" "__next__" "set_iterator.__next__" :=
  .of (owner := "set_iterator") (n := "__next__") (by rw [typeLookup_type, builtinLookup_eq_fast]; kernel_rfl) (by decide +kernel) (by decide +kernel) (by decide +kernel)
    (by first | exact .inl (by decide +kernel) | exact .inr (by decide +kernel)) (by rw [isSubtype_type]; kernel_rfl)
theorem entry_next : entryFor table "set_iterator.__next__" = some Builtin.«set_iterator.__next__» := entryFor_of_fast (by kernel_rfl)
theorem args_next (a : Value) : argsOk "set_iterator.__next__" ⟨[a], []⟩ := by unfold argsOk; kernel_rfl
theorem slot_iter : Slot "set_iterator" "__iter__" "set_iterator.__iter__" :=
  .of (owner := "set_iterator") (n := "__iter__") (by rw [typeLookup_type, builtinLookup_eq_fast]; kernel_rfl) (by decide +kernel) (by decide +kernel) (by decide +kernel)
    (by first | exact .inl (by decide +kernel) | exact .inr (by decide +kernel)) (by rw [isSubtype_type]; kernel_rfl)
theorem entry_iter : entryFor table "set_iterator.__iter__" = some Builtin.«dict_keyiterator.__iter__» :=
  entryFor_alias (id' := "dict_keyiterator.__iter__") (by kernel_rfl) rfl (by decide +kernel) (by kernel_rfl)
theorem args_iter (a : Value) : argsOk "set_iterator.__iter__" ⟨[a], []⟩ := by unfold argsOk; kernel_rfl
end F
noncomputable abbrev itObj (first : Value) (i : Nat) (a : Addr) (n ep : Nat) : Obj := { cls := .type "set_iterator", data := .fields #[first, .int i 0, .ref a, .int n 0, .int ep 0] }
section
variable {prog : Program} {w : World} {A : Around} {E : Value → Shared → Prop} {s : Shared}
theorem self_it {I : Addr} {first : Value} {i : Nat} {a : Addr} {n ep : Nat} {Q : Value → Shared → Prop} (ho : s.heap.get? I = some (itObj first i a n ep)) (h : Q (.ref I) s) : wpAny (model prog w) A (pyIter (.ref I)) Q E s := by
  have hT : s.TypeIs (.ref I) "set_iterator" := ⟨_, ho, rfl⟩
  refine wpAny_pyIter_slot hT F.slot_iter (wpAny_call_entry F.slot_iter hT F.entry_iter ?_ (F.args_iter _))
  show wpAny _ _ (ret (.ref I)) _ _ s
  exact wpAny_pure ⟨_, rfl, "set_iterator", _, hT, F.slot_next.lookup, h⟩
theorem setDrawn_at {a : Addr} {es : Array (Int × Value)} {ep : Nat} {t : SetTable} {Q : Bool → Shared → Prop} (ho : s.heap.get? a = some (setObj es ep t)) (hf : t.fits es.size = true)
    (h : Q (!(w.params.followText "set-order") && (!t.plain && decide (es.size > 1))) s) : wpAny (model prog w) A (setDrawn a) Q E s := by
  unfold setDrawn setsByText
  refine wpAny_bind (wpAny_setState_of ho rfl hf ?_)
  dsimp only
  refine wpAny_bind (wpAny_bind (wpAny_askSetting (wpAny_pure ?_)))
  exact wpAny_pure h
theorem stop_at {I : Addr} {Q : Option Value → Shared → Prop} (hh : A.handled = none) {o : Obj} (hQ : ∀ h', Heap.ExtBut I s.heap h' → Q none { s with heap := h' }) {h1 : Heap} (k : Heap.ExtBut I s.heap h1) :
    wpAny (model prog w) A.in1 (newExc (.type "StopIteration") [] >>= fun e => raiseNew e) (fun (fin : Fin) s' => ∃ r, fin = .done (.ret r) ∧ wpAny (model prog w) A (pure (some r)) Q E s')
      (fun e s' => wpAny (model prog w) A (isInstance e (.type "StopIteration") >>= fun b => if b = true then pure none else throw e) Q E s') { s with heap := h1 } := by
  refine wpAny_bind ?_
  simp only [newExc, newTuple]
  refine wpAny_bind (wpAny_newObj_type ?_ (by size_fits))
  refine wpAny_bind (m := firstArgMember _ _) (wpAny_of_eq (a := Value.none) (by first | rfl | (simp only [firstArgMember]; rfl)) ?_)
  refine wpAny_newObj_type ?_ (by size_fits)
  simp only [raiseNew]
  refine wpAny_bind (wpAny_handled ?_)
  rw [show A.in1.handled = none from hh]
  refine wpAny_bind (wpAny_pure (wpAny_throw ?_))
  refine wpAny_bind (wpAny_isInstance (T := "StopIteration") (b := true) ⟨_, Heap.get?_push_size _ rfl, rfl⟩ isSubtype_stop ?_)
  exact wpAny_pure (hQ _ ((k.push _).push _))
end
end NhSet
namespace NhSet
open PySem PyProof.Rows
section
variable {prog : Program} {w : World} {A : Around} {E : Value → Shared → Prop} {s : Shared}
theorem next_start {I : Addr} {first : Value} {i : Nat} {a : Addr} {n ep : Nat} {Q : Option Value → Shared → Prop} (hI : s.heap.get? I = some (itObj first i a n ep)) {es : Array (Int × Value)} {t : SetTable} (ha : s.heap.get? a = some (setObj es ep t)) (hf : t.fits es.size = true) (hn : es.size = n)
    (h : wpAny (model prog w) A.in1 (if let .int slot _ := first then do
        match ← setNext a slot.toNat i ep with
        | some (x, next) => do
          setField (.ref I) 0 (rawInt next)
          setField (.ref I) 1 (rawInt (i + 1))
          ret x
        | none => do setField (.ref I) 2 .none; raiseNew (← newExc (.type "StopIteration") [])
      else do
        let some places ← seqItems? first | unsupported "internal:set_iterator"
        match places[i]? with
        | some (.int place _) => do
          let x ← setNextDrawn a place.toNat ep
          setField (.ref I) 1 (rawInt (i + 1))
          ret x
        | some _ => unsupported "internal:set_iterator"
        | none => do setField (.ref I) 0 (rawInt 0); setField (.ref I) 2 .none; raiseNew (← newExc (.type "StopIteration") []))
      (fun (fin : Fin) s' => ∃ r, fin = .done (.ret r) ∧ wpAny (model prog w) A (pure (some r)) Q E s')
      (fun e s' => wpAny (model prog w) A (isInstance e (.type "StopIteration") >>= fun b => if b = true then pure none else throw e) Q E s') s) :
    wpAny (model prog w) A (pyNext (.ref I)) Q E s := by
  have hT' : s.TypeIs (.ref I) "set_iterator" := ⟨_, hI, rfl⟩
  unfold pyNext
  refine wpAny_bind (wpAny_attempt (wpAny_callSpecial?_slot (name := Str.ofString "__next__") hT' F.slot_next (wpAny_call_entry F.slot_next hT' F.entry_next ?_ (F.args_next _))))
  unfold Builtin.«set_iterator.__next__»
  refine wpAny_bind (m := slotArgs _ _ _) (wpAny_pure ?_)
  refine wpAny_bind (wpAny_fieldsOf hI rfl ?_)
  dsimp only
  refine wpAny_bind (wpAny_setEntries_of ha rfl hf ?_)
  rw [if_neg (by simp [hn])]
  exact h
noncomputable abbrev nth (es : Array (Int × Value)) (j : Nat) : Value := (es.getD j (0, .none)).2
theorem setField_it {I : Addr} {o : Obj} {vs : Array Value} {k : Nat} {x : Value} {Q : Unit → Shared → Prop} (ho : s.heap.get? I = some o) (hd : o.data = .fields vs) (hk : k < vs.size) (hQ : ∀ h', Heap.SameBut I s.heap h' → h'.get? I = some { o with data := .fields (vs.setIfInBounds k x) } → Q () { s with heap := h' }) : wpAny (model prog w) A (setField (.ref I) k x) Q E s := by
  refine wpAny_setField ho hd hk (hQ _ (Heap.SameBut.update ..) ?_)
  have := Heap.get?_update_self (Obj.mapFields fun vs => vs.setIfInBounds k x) ho (Obj.isFreed_of_fields (Obj.data_mapFields hd _))
  rw [this]
  obtain ⟨c, d, dt, sl⟩ := o
  simp only at hd
  subst hd
  rfl
theorem walk_drawn (hh : A.handled = none) {I T a : Addr} {es : Array (Int × Value)} {ep : Nat} {t : SetTable} (π : List Nat) (hp : ∀ j ∈ π, j < es.size) (hl : π.length = es.size) (hf : t.fits es.size = true) (hTI : T ≠ I) (haI : a ≠ I) :
    Walks prog w A I [I, T, a] [I] (π.map (nth es)).length (fun i v => (π.map (nth es))[i]? = some v)
      (fun i h => h.get? I = some (itObj (.ref T) i a es.size ep) ∧ h.get? T = some { cls := .type "tuple", data := .seq (π.map fun (i : Nat) => rawInt i).toArray } ∧ h.get? a = some (setObj es ep t)) where
  sub := fun b hb => by simp at hb; simp [hb]
  frame := fun _ _ _ st hk => ⟨hk I (by simp) _ st.1, hk T (by simp) _ st.2.1, hk a (by simp) _ st.2.2⟩
  self := fun _ _ _ _ st hQ => self_it st.1 hQ
  item := fun i s Q E hi st hQ => by
    obtain ⟨hI, hT, ha⟩ := st
    rw [List.length_map] at hi
    refine next_start hI ha hf rfl ?_
    dsimp only
    refine wpAny_bind (wpAny_seqItems hT rfl ?_)
    dsimp only
    have e : (π.map fun (i : Nat) => rawInt i).toArray[i]? = some (.int (π[i] : Nat) 0) := by
      simp [hi, rawInt]
    rw [e]
    dsimp only
    have hj := hp π[i] (List.getElem_mem hi)
    unfold setNextDrawn
    refine wpAny_bind (wpAny_bind (wpAny_setState_of ha rfl hf ?_))
    dsimp only
    rw [if_neg (by simp)]
    have e2 : es[((π[i] : Nat) : Int).toNat]? = some (es[π[i]]) := by simp [hj]
    rw [e2]
    refine wpAny_pure ?_
    refine wpAny_bind (setField_it hI rfl (by simp) fun h' hs' ho' => ?_)
    refine wpAny_pure ⟨_, rfl, wpAny_pure (hQ _ h' s.toks ?_ ⟨?_, ?_, ?_⟩ fun b o hb e => hs'.extBut b o (fun z => hb (by simp [z])) e)⟩
    · simp [hi, nth, hj]
    · rw [ho']; simp [rawInt]
    · exact hs'.extBut T _ hTI hT
    · exact hs'.extBut a _ haI ha
  done := fun s Q E st hQ => by
    obtain ⟨hI, hT, ha⟩ := st
    refine next_start hI ha hf rfl ?_
    dsimp only
    refine wpAny_bind (wpAny_seqItems hT rfl ?_)
    dsimp only
    have e : (π.map fun (i : Nat) => rawInt i).toArray[(π.map (nth es)).length]? = none := by simp
    rw [e]
    dsimp only
    refine wpAny_bind (setField_it hI rfl (by simp) fun h' hs' ho' => ?_)
    refine wpAny_bind (setField_it (s := { s with heap := h' }) ho' rfl (by simp) fun h2 hs2 _ => ?_)
    exact stop_at (I := I) (o := setObj es ep t) hh (fun h3 k => hQ h3 s.toks fun b o hb e => k b o (fun z => hb (by simp [z])) e) (hs'.trans hs2).extBut
theorem setNext_text {a : Addr} {es : Array (Int × Value)} {ep : Nat} {t : SetTable} {slot given : Nat} {Q : Option (Value × Nat) → Shared → Prop} (hb : w.params.followText "set-order" = true) (ha : s.heap.get? a = some (setObj es ep t)) (hf : t.fits es.size = true)
    (h : Q (((pickOrder (w.params.setOrder a ep) es)[given]?).map fun e => (e.2, slot)) s) : wpAny (model prog w) A (setNext a slot given ep) Q E s := by
  unfold setNext setsByText
  refine wpAny_bind (wpAny_setState_of ha rfl hf ?_)
  dsimp only
  refine wpAny_bind (wpAny_bind (wpAny_askSetting (wpAny_pure ?_)))
  rw [if_pos (show (model prog w).w.params.followText "set-order" = true from hb)]
  rw [if_neg (by simp)]
  refine wpAny_bind ?_
  unfold setWalk setsByText
  refine wpAny_bind (wpAny_setState_of ha rfl hf ?_)
  dsimp only
  refine wpAny_bind (wpAny_bind (wpAny_askSetting (wpAny_pure ?_)))
  rw [if_pos (show (model prog w).w.params.followText "set-order" = true from hb)]
  refine wpAny_bind (wpAny_askSetting (wpAny_pure ?_))
  exact wpAny_pure h
theorem setNext_led {a : Addr} {es : Array (Int × Value)} {ep : Nat} {t : SetTable} {slot given : Nat} {Q : Option (Value × Nat) → Shared → Prop} (hb : w.params.followText "set-order" = false) (hsz : es.size ≤ 1) (hled : t.led = true) (ha : s.heap.get? a = some (setObj es ep t)) (hf : t.fits es.size = true)
    (h : Q (match es[SetTable.below t.place slot]?, t.place[SetTable.below t.place slot]? with | some (_, x), some j => some (x, j + 1) | _, _ => none) s) : wpAny (model prog w) A (setNext a slot given ep) Q E s := by
  unfold setNext setsByText
  refine wpAny_bind (wpAny_setState_of ha rfl hf ?_)
  dsimp only
  refine wpAny_bind (wpAny_bind (wpAny_askSetting (wpAny_pure ?_)))
  rw [if_neg (show ¬ ((model prog w).w.params.followText "set-order" = true) by show ¬ (w.params.followText "set-order" = true); rw [hb]; decide)]
  have hd : (!t.plain && decide (es.size > 1)) = false := by rw [decide_eq_false (by omega)]; simp
  show wpAny _ _ (if (!t.plain && decide (es.size > 1)) = true then _ else _) _ _ _
  rw [hd, if_neg (by decide)]
  show wpAny _ _ ((if (!t.led && !es.isEmpty) = true then unsupported "set:maker-not-led" else pure PUnit.unit) >>= _) _ _ _
  rw [hled, if_neg (by simp)]
  refine wpAny_bind (wpAny_pure ?_)
  exact wpAny_pure h
theorem walk_text (hh : A.handled = none) {I a : Addr} {es : Array (Int × Value)} {ep : Nat} {t : SetTable} (hb : w.params.followText "set-order" = true) (hf : t.fits es.size = true) (haI : a ≠ I) :
    Walks prog w A I [I, a] [I] ((pickOrder (w.params.setOrder a ep) es).toList.map (·.2)).length (fun i v => ((pickOrder (w.params.setOrder a ep) es).toList.map (·.2))[i]? = some v)
      (fun i h => h.get? I = some (itObj (.int 0 0) i a es.size ep) ∧ h.get? a = some (setObj es ep t)) where
  sub := fun b hb => by simp at hb; simp [hb]
  frame := fun _ _ _ st hk => ⟨hk I (by simp) _ st.1, hk a (by simp) _ st.2⟩
  self := fun _ _ _ _ st hQ => self_it st.1 hQ
  item := fun i s Q E hi st hQ => by
    obtain ⟨hI, ha⟩ := st
    have hi' : i < (pickOrder (w.params.setOrder a ep) es).size := by simpa using hi
    refine next_start hI ha hf rfl ?_
    dsimp only
    refine wpAny_bind (setNext_text hb ha hf ?_)
    rw [Array.getElem?_eq_getElem hi']
    dsimp only [Option.map_some]
    refine wpAny_bind (setField_it hI rfl (by simp) fun h' hs' ho' => ?_)
    refine wpAny_bind (setField_it (s := { s with heap := h' }) ho' rfl (by simp) fun h2 hs2 ho2 => ?_)
    refine wpAny_pure ⟨_, rfl, wpAny_pure (hQ _ h2 s.toks ?_ ⟨?_, ?_⟩ fun b o hb e => (hs'.trans hs2).extBut b o (fun z => hb (by simp [z])) e)⟩
    · simp [hi']
    · rw [ho2]; simp [rawInt]
    · exact (hs'.trans hs2).extBut a _ haI ha
  done := fun s Q E st hQ => by
    obtain ⟨hI, ha⟩ := st
    refine next_start hI ha hf rfl ?_
    dsimp only
    refine wpAny_bind (setNext_text hb ha hf ?_)
    rw [show (pickOrder (w.params.setOrder a ep) es)[((pickOrder (w.params.setOrder a ep) es).toList.map (·.2)).length]? = none by simp]
    dsimp only [Option.map_none]
    refine wpAny_bind (setField_it hI rfl (by simp) fun h' hs' ho' => ?_)
    exact stop_at (I := I) (o := setObj es ep t) hh (fun h3 k => hQ h3 s.toks fun b o hb e => k b o (fun z => hb (by simp [z])) e) hs'.extBut
theorem below_zero {xs : Array Nat} (h : xs.size ≤ 1) : SetTable.below xs 0 = 0 := by
  obtain ⟨l⟩ := xs
  match l, h with
  | [], _ => rfl
  | [p], _ => simp [SetTable.below, SetTable.below.go]
theorem below_past {p : Nat} : SetTable.below #[p] (p + 1) = 1 := by simp [SetTable.below, SetTable.below.go]
theorem walk_led (hh : A.handled = none) {I a : Addr} {es : Array (Int × Value)} {ep : Nat} {t : SetTable} (hb : w.params.followText "set-order" = false) (hsz : es.size ≤ 1) (hled : t.led = true) (hf : t.fits es.size = true) (haI : a ≠ I) :
    Walks prog w A I [I, a] [I] (es.toList.map (·.2)).length (fun i v => (es.toList.map (·.2))[i]? = some v)
      (fun i h => h.get? I = some (itObj (.int (if i = 0 then 0 else (t.place.getD 0 0 + 1 : Nat)) 0) i a es.size ep) ∧ h.get? a = some (setObj es ep t)) where
  sub := fun b hb => by simp at hb; simp [hb]
  frame := fun _ _ _ st hk => ⟨hk I (by simp) _ st.1, hk a (by simp) _ st.2⟩
  self := fun _ _ _ _ st hQ => self_it st.1 hQ
  item := fun i s Q E hi st hQ => by
    obtain ⟨hI, ha⟩ := st
    have hi' : i < es.size := by simpa using hi
    have hi0 : i = 0 := by omega
    subst hi0
    rw [if_pos rfl] at hI
    have hps : t.place.size = es.size := by
      have := hf; simp only [SetTable.fits, Bool.and_eq_true, beq_iff_eq] at this; exact this.1
    refine next_start hI ha hf rfl ?_
    dsimp only
    refine wpAny_bind (setNext_led hb hsz hled ha hf ?_)
    rw [show ((0 : Int)).toNat = 0 from rfl, below_zero (by omega), Array.getElem?_eq_getElem hi', Array.getElem?_eq_getElem (show 0 < t.place.size by omega)]
    dsimp only
    refine wpAny_bind (setField_it hI rfl (by simp) fun h' hs' ho' => ?_)
    refine wpAny_bind (setField_it (s := { s with heap := h' }) ho' rfl (by simp) fun h2 hs2 ho2 => ?_)
    refine wpAny_pure ⟨_, rfl, wpAny_pure (hQ _ h2 s.toks ?_ ⟨?_, ?_⟩ fun b o hb e => (hs'.trans hs2).extBut b o (fun z => hb (by simp [z])) e)⟩
    · simp [hi']
    · rw [ho2]
      have : t.place.getD 0 0 = t.place[0] := by simp [Array.getD, show 0 < t.place.size by omega]
      simp [rawInt, this]
    · exact (hs'.trans hs2).extBut a _ haI ha
  done := fun s Q E st hQ => by
    obtain ⟨hI, ha⟩ := st
    have hps : t.place.size = es.size := by
      have := hf; simp only [SetTable.fits, Bool.and_eq_true, beq_iff_eq] at this; exact this.1
    have hlen : (es.toList.map (·.2)).length = es.size := by simp
    rw [hlen] at hI
    refine next_start hI ha hf rfl ?_
    dsimp only
    refine wpAny_bind (setNext_led hb hsz hled ha hf ?_)
    have hno : (match es[SetTable.below t.place (if es.size = 0 then (0 : Int) else ((t.place.getD 0 0 + 1 : Nat) : Int)).toNat]?, t.place[SetTable.below t.place (if es.size = 0 then (0 : Int) else ((t.place.getD 0 0 + 1 : Nat) : Int)).toNat]? with | some (_, x), some j => some (x, j + 1) | _, _ => (none : Option (Value × Nat))) = none := by
      by_cases z : es.size = 0
      · rw [if_pos z, show ((0 : Int)).toNat = 0 from rfl, below_zero (by omega), Array.getElem?_eq_none (by omega)]
      · rw [if_neg z]
        obtain ⟨⟨p⟩, hp⟩ : ∃ q : { p : Nat // t.place = #[p] }, True := by
          generalize t.place = pl at hps
          obtain ⟨l⟩ := pl
          match l, hps with
          | [], h => simp at h; omega
          | [p], h => exact ⟨⟨p, rfl⟩, trivial⟩
          | _ :: _ :: _, h => simp at h; omega
        rename_i hpl
        rw [hpl]
        simp only [Int.toNat_natCast]
        have : (#[p] : Array Nat).getD 0 0 = p := rfl
        rw [this, below_past, Array.getElem?_eq_none (show es.size ≤ 1 by omega)]
    rw [hno]
    dsimp only
    refine wpAny_bind (setField_it hI rfl (by simp) fun h' hs' ho' => ?_)
    exact stop_at (I := I) (o := setObj es ep t) hh (fun h3 k => hQ h3 s.toks fun b o hb e => k b o (fun z => hb (by simp [z])) e) hs'.extBut
theorem iter_set {a : Addr} {es : Array (Int × Value)} {ep : Nat} {t : SetTable} {ks : List Str} {Q : Value → Shared → Prop} (ha : s.heap.get? a = some (setObj es ep t)) (S : SS w (ledOf w) ks es t)
    (hQ : ∀ (s' : Shared) (I : Addr) (fp : List Addr) (St : Nat → Heap → Prop) (items : List Value), (∀ b o, s.heap.get? b = some o → s'.heap.get? b = some o) → s.heap.objs.size ≤ s'.heap.objs.size → s'.gens = s.gens → s'.os = s.os → s'.toks = s.toks → (∀ b ∈ fp, b = a ∨ s.heap.objs.size ≤ b) → s.heap.objs.size ≤ I →
      (∀ A' : Around, A'.handled = none → Walks prog w A' I fp [I] items.length (fun i v => items[i]? = some v) St) → St 0 s'.heap → items.Perm (es.toList.map (·.2)) → Q (.ref I) s') :
    wpAny (model prog w) A (pyIter (.ref a)) Q E s := by
  have hT : s.TypeIs (.ref a) "set" := ⟨_, ha, rfl⟩
  have hlt : a < s.heap.objs.size := Heap.lt_size ha
  refine wpAny_pyIter_slot hT PySem.F.slot_set_iter (wpAny_call_entry PySem.F.slot_set_iter hT F.entry_set_iter ?_ (PySem.F.args_set_iter_1 _))
  unfold Builtin.«frozenset.__iter__» Builtin.Frozenset.slot0 slotArgs
  simp only [List.isEmpty_nil, Bool.not_true, Bool.false_eq_true, ↓reduceIte, bind_assoc, List.length_nil, bne_self_eq_false]
  unfold Builtin.Frozenset.addrOf Builtin.Frozenset.sizeOf
  refine wpAny_bind (wpAny_pure ?_)
  try dsimp only
  refine wpAny_bind (wpAny_pure ?_)
  refine wpAny_bind (wpAny_bind (wpAny_setEntries_of ha rfl S.fits (wpAny_pure ?_)))
  refine wpAny_bind (setDrawn_at ha S.fits ?_)
  cases hd : (!(w.params.followText "set-order") && (!t.plain && decide (es.size > 1))) with
  | true =>
    simp only [↓reduceIte]
    refine wpAny_bind (wpAny_drawOrder es.size (List.range es.size) s (by simp) fun π d hp => ?_)
    have hl : π.length = es.size := by rw [hp.length_eq, List.length_range]
    have hm : ∀ j ∈ π, j < es.size := fun j hj => List.mem_range.mp (hp.mem_iff.mp hj)
    refine wpAny_bind (wpAny_newTuple (s := { s with drawn := d }) ?_ (by rw [List.length_map, hl]; exact fits_of_scanBound S.bound))
    have ha2 : (s.heap.push { cls := .type "tuple", data := .seq (π.map fun (i : Nat) => rawInt i).toArray }).get? a = some (setObj es ep t) := Heap.get?_push_of_some _ ha
    refine wpAny_bind (wpAny_setEpoch_of (s := { s with drawn := d, heap := s.heap.push { cls := .type "tuple", data := .seq (π.map fun (i : Nat) => rawInt i).toArray } }) ha2 rfl S.fits ?_)
    refine wpAny_bind (wpAny_newObj_type ?_)
    have hs1 : (s.heap.push { cls := .type "tuple", data := .seq (π.map fun (i : Nat) => rawInt i).toArray }).objs.size = s.heap.objs.size + 1 := by rw [Heap.size_push]
    refine wpAny_pure ⟨_, rfl, "set_iterator", _, ⟨_, Heap.get?_push_size _ rfl, rfl⟩, F.slot_next.lookup, ?_⟩
    refine hQ _ _ _ _ (π.map (nth es)) (fun b o e => Heap.get?_push_of_some _ (Heap.get?_push_of_some _ e)) (by rw [Heap.size_push, Heap.size_push]; omega) rfl rfl rfl ?_ (by dsimp only; rw [hs1]; omega)
      (fun A' hA => walk_drawn hA (T := s.heap.objs.size) (a := a) (ep := ep) (t := t) π hm hl S.fits (by dsimp only; rw [hs1]; exact Nat.ne_of_lt (Nat.lt_succ_self _)) (by dsimp only; rw [hs1]; exact Nat.ne_of_lt (Nat.lt_succ_of_lt hlt)))
      ⟨Heap.get?_push_size _ rfl, Heap.get?_push_of_some _ (Heap.get?_push_size _ rfl), Heap.get?_push_of_some _ ha2⟩ ?_
    · intro b hb
      rcases List.mem_cons.mp hb with rfl | hb
      · right; dsimp only; rw [hs1]; omega
      rcases List.mem_cons.mp hb with rfl | hb
      · right; exact Nat.le_refl _
      · left; exact List.mem_singleton.mp hb
    · refine (hp.map (nth es)).trans ?_
      rw [show (List.range es.size).map (nth es) = es.toList.map (·.2) from ?_]
      refine List.ext_getElem (by simp) fun i h1 h2 => ?_
      have hi : i < es.size := by simpa using h1
      simp [nth, hi]
  | false =>
    simp only [Bool.false_eq_true, ↓reduceIte]
    refine wpAny_bind (wpAny_pure ?_)
    refine wpAny_bind (wpAny_setEpoch_of ha rfl S.fits ?_)
    refine wpAny_bind (wpAny_newObj_type ?_)
    refine wpAny_pure ⟨_, rfl, "set_iterator", _, ⟨_, Heap.get?_push_size _ rfl, rfl⟩, F.slot_next.lookup, ?_⟩
    have hfp : ∀ b ∈ [s.heap.objs.size, a], b = a ∨ s.heap.objs.size ≤ b := fun b hb => by
      rcases List.mem_cons.mp hb with rfl | hb
      · right; exact Nat.le_refl _
      · left; exact List.mem_singleton.mp hb
    cases hb : w.params.followText "set-order" with
    | true =>
      exact hQ _ _ _ _ ((pickOrder (w.params.setOrder a ep) es).toList.map (·.2)) (fun b o e => Heap.get?_push_of_some _ e) (by rw [Heap.size_push]; omega) rfl rfl rfl hfp (Nat.le_refl _)
        (fun A' hA => walk_text hA (t := t) hb S.fits (Nat.ne_of_lt hlt)) ⟨Heap.get?_push_size _ rfl, Heap.get?_push_of_some _ ha⟩ ((pickOrder_perm _ es).map _)
    | false =>
      have hled : t.led = true := by rw [S.led, ledOf, hb]; rfl
      have hsz : es.size ≤ 1 := by
        rw [hb] at hd
        by_cases z : es.size = 0
        · omega
        · rw [S.plain z] at hd
          simp at hd
          omega
      exact hQ _ _ _ _ (es.toList.map (·.2)) (fun b o e => Heap.get?_push_of_some _ e) (by rw [Heap.size_push]; omega) rfl rfl rfl hfp (Nat.le_refl _)
        (fun A' hA => walk_led hA (t := t) hb hsz hled S.fits (Nat.ne_of_lt hlt)) ⟨Heap.get?_push_size _ rfl, Heap.get?_push_of_some _ ha⟩ (List.Perm.refl _)
end
end NhSet
namespace NhSet
open PySem PyProof.Rows
namespace F
theorem set_len : typeLookup (.type "set") "__len__" = pure (some (.builtin "set.__len__")) := by rw [typeLookup_type, builtinLookup_eq_fast]; kernel_rfl
end F
section
variable {prog : Program} {w : World} {A : Around} {E : Value → Shared → Prop} {s : Shared}
theorem collect_set {a : Addr} {es : Array (Int × Value)} {ep : Nat} {t : SetTable} {ks : List Str} {Q : List Value → Shared → Prop} (hh : A.handled = none) (ha : s.heap.get? a = some (setObj es ep t)) (S : SS w (ledOf w) ks es t)
    (hQ : ∀ (s' : Shared) (items : List Value), (∀ b o, s.heap.get? b = some o → s'.heap.get? b = some o) → s'.gens = s.gens → s'.os = s.os → s.heap.objs.size ≤ s'.heap.objs.size → items.Perm (es.toList.map (·.2)) → Q items s') :
    wpAny (model prog w) A (collect (.ref a)) Q E s := by
  have hlt : a < s.heap.objs.size := Heap.lt_size ha
  unfold collect
  refine wpAny_bind (wpAny_runValue (codeAny_builtin PySem.F.entry_proto_collect ?_))
  rw [Around.under_plainId PySem.F.plain_proto_collect _]
  show wpAny _ A.in1 (newList [] >>= fun l => again (.builtin "list.__iadd__" ⟨[l, .ref a], []⟩)) _ _ s
  refine wpAny_bind (wpAny_newObj_type ?_)
  refine wpAny_pure ⟨plainId_quiet PySem.F.plain_list_iadd _, codeAny_builtin PySem.F.entry_list_iadd ?_⟩
  rw [Around.under_plainId PySem.F.plain_list_iadd _]
  show wpAny _ A.in1 (Builtin.List.listExtendWith (.ref s.heap.objs.size) (.ref a) (.ref s.heap.objs.size)) _ _ _
  unfold Builtin.List.listExtendWith
  have ha1 : (s.heap.push { cls := .type "list", data := .seq ([] : List Value).toArray }).get? a = some (setObj es ep t) := Heap.get?_push_of_some _ ha
  have hT1 : Shared.TypeIs { s with heap := s.heap.push { cls := .type "list", data := .seq ([] : List Value).toArray } } (.ref a) "set" := ⟨_, ha1, rfl⟩
  refine wpAny_bind (wpAny_typeOf hT1 ?_)
  have h1 : Builtin.List.listSameRef (.ref s.heap.objs.size) (.ref a) = false := by simp [Builtin.List.listSameRef]; exact Nat.ne_of_gt hlt
  have h2 : (Value.type "set" == Value.type "list") = false := by decide
  have h3 : (Value.type "set" == Value.type "tuple") = false := by decide
  simp only [h1, h2, h3, Bool.or_false, Bool.false_eq_true, if_false]
  refine wpAny_bind (iter_set ha1 S fun s2 I fp St items k2 z2 g2 o2 t2 hfp hI W hst hp => ?_)
  have hT2 : s2.TypeIs (.ref a) "set" := ⟨_, k2 a _ ha1, rfl⟩
  refine wpAny_bind (wpAny_holding ?_)
  unfold Builtin.List.listLengthHint
  refine wpAny_bind (wpAny_specialOf hT2 F.set_len ?_)
  wp_delta
  refine wpAny_bind (wpAny_isInstance (T := "set") (b := true) hT2 sub_set_self ?_)
  show wpAny _ A.in1 (typeOf (Value.ref a) >>= _) _ _ _
  refine wpAny_bind (wpAny_typeOf hT2 ?_)
  refine wpAny_pure ?_
  rw [if_pos (by decide)]
  refine wpAny_bind (wpAny_rule ?_)
  have hS0 : s2.heap.get? s.heap.objs.size = some { cls := .type "list", data := .seq ([] : List Value).toArray } := k2 _ _ (Heap.get?_push_size _ rfl)
  refine wpAny_bind ?_
  show wpAny _ A.in1 (updateSeq s.heap.objs.size (·.push .none) >>= fun _ => updateSeq s.heap.objs.size (·.pop)) _ _ _
  refine wpAny_bind (wpAny_updateSeq hS0 rfl ?_)
  have hS2 := Heap.get?_update_self (Obj.mapSeq (·.push Value.none)) hS0 rfl
  refine wpAny_updateSeq hS2 rfl ?_
  have hS3 := Heap.get?_update_self (Obj.mapSeq (·.pop)) hS2 rfl
  have oth : ∀ b o, b ≠ s.heap.objs.size → s2.heap.get? b = some o →
      ((s2.heap.update s.heap.objs.size (Obj.mapSeq (·.push Value.none))).update s.heap.objs.size (Obj.mapSeq (·.pop))).get? b = some o :=
    fun b o hb e => (Heap.get?_update_other _ _ (Ne.symm hb)).trans ((Heap.get?_update_other _ _ (Ne.symm hb)).trans e)
  have hz1 : (s.heap.push { cls := .type "list", data := .seq ([] : List Value).toArray }).objs.size = s.heap.objs.size + 1 := by rw [Heap.size_push]
  have hnS : ∀ b, (s.heap.push { cls := .type "list", data := .seq ([] : List Value).toArray }).objs.size ≤ b → b ≠ s.heap.objs.size := fun b hb e => by
    rw [hz1, e] at hb; exact Nat.not_succ_le_self _ hb
  have hSf : s.heap.objs.size ∉ fp := fun hm => by
    rcases hfp _ hm with e | e
    · exact absurd e (Nat.ne_of_gt hlt)
    · exact hnS _ e rfl
  have hlen : items.length ≤ sizeLine := by
    rw [hp.length_eq]; simpa using fits_of_scanBound S.bound
  refine wpAny_pure ⟨plainId_quiet PySem.F.plain_extend_loop _, codeAny_extend_loopS (W A.in1 (by simp [hh])).toS hlen _ hSf _ items.length 0 _ _ _ rfl (Nat.zero_le _)
    ((W A.in1 (by simp [hh])).frame 0 s2.heap _ hst fun b hb o e => oth b o (fun z => hSf (z ▸ hb)) e) hS3 (ItemsOf.nil _) fun s' acc' c' hm hS' hacc => ?_⟩
  show wpAny _ A (load s.heap.objs.size >>= _) _ _ s'
  refine wpAny_bind (wpAny_load hS' ?_)
  have hacc' : acc'.toList = items := by
    refine List.ext_getElem? fun i => ?_
    rw [Array.getElem?_toList]
    by_cases hi : i < acc'.size
    · rw [Array.getElem?_eq_getElem hi]
      exact (hacc.2 i _ (Array.getElem?_eq_getElem hi)).symm
    · rw [Array.getElem?_eq_none (by omega), List.getElem?_eq_none (by rw [← hacc.1]; omega)]
  refine wpAny_pure ?_
  rw [hacc']
  refine hQ s' items (fun b o e => ?_) (hm.gens.trans g2) (hm.os.trans o2) (Nat.le_of_lt (Heap.lt_size hS')) hp
  have hb : b < s.heap.objs.size := Heap.lt_size e
  refine hm.heap b o (fun z => ?_) (oth b o (Nat.ne_of_lt hb) (k2 b o (Heap.get?_push_of_some _ e)))
  rcases List.mem_cons.mp z with z | z
  · exact absurd z (Nat.ne_of_lt hb)
  · rw [List.mem_singleton.mp z] at hb
    have hI' : s.heap.objs.size + 1 ≤ I := by rw [← hz1]; exact hI
    exact absurd (Nat.lt_of_lt_of_le (Nat.lt_succ_self _) hI') (Nat.lt_asymm hb)
theorem sorted_set {a : Addr} {ks : List Str} {Q : Value → Shared → Prop} (hh : A.handled = none) (hS : StrSet w s.heap a (ledOf w) ks) (h64 : ks.length < 64)
    (h : ∀ (s' : Shared) (l : Addr) (out : Array Value) (e : Nat) (ss' : List Str), (∀ b o, s.heap.get? b = some o → s'.heap.get? b = some o) → s'.gens = s.gens → s'.os = s.os → s.heap.objs.size ≤ l → s'.heap.get? l = some (seqObj "list" out e) → StrsAre out.toList ss' → ss'.Perm ks → sortedS ss' = true → Q (.ref l) s') :
    wpAny (model prog w) A (call (.builtin "sorted") [.ref a]) Q E s := by
  obtain ⟨es, ep, t, ha, S⟩ := hS
  refine Calls.call_function_entry kind_sorted plain_sorted entry_sorted (args_sorted1 _) ?_
  unfold Builtin.«sorted»
  refine wpAny_bind (m := checkCount "sorted" 1 1 _) (wpAny_pure ?_)
  refine wpAny_bind (collect_set (by simp [hh]) ha S fun s1 items k1 g1 o1 hsz hp => ?_)
  have hpk : (items.map strOf).Perm ks := (hp.map strOf).trans (by rw [List.map_map]; exact S.perm)
  have hst : ∀ v ∈ items, ∃ x tk, v = .str x tk := fun v hv => by
    obtain ⟨e, he, rfl⟩ := List.mem_map.mp (hp.mem_iff.mp hv)
    obtain ⟨x, tk, rfl⟩ := S.elems e he
    exact ⟨x, tk, rfl⟩
  have hSA := strsAre_map items hst
  have hl64 : items.length < 64 := by have := hpk.length_eq; rw [List.length_map] at this; omega
  refine wpAny_bind (wpAny_newList ?_)
  have hoL : (s1.heap.push (seqObj "list" items.toArray 0)).get? s1.heap.objs.size = some (seqObj "list" items.toArray 0) := Heap.get?_push_size _ rfl
  refine wpAny_bind (wpAny_holding (wpAny_call_entry slot_list_sort ⟨_, hoL, rfl⟩ entry_list_sort (list_sort_treeK (s := { s1 with heap := s1.heap.push (seqObj "list" items.toArray 0) }) strKind_oneLt hoL hSA.keysOf (fun v₁ v₂ rest e => keyKind_strs (by rw [← e]; exact hSA)) hl64 fun st' a1 a2 => ⟨_, rfl, ?_⟩) (args_list_sort _)))
  obtain ⟨ss', b1, b2, b3⟩ := sorted_out_str hSA a1 a2
  obtain ⟨e, he⟩ := sortedHeap_at (out := (arrOf st').map (·.2)) hoL
  refine wpAny_pure ⟨_, rfl, h _ s1.heap.objs.size _ e ss' (fun b o hb => ?_) g1 o1 hsz he b1 (b2.trans hpk) b3⟩
  have hb1 := k1 b o hb
  have hlt := Heap.lt_size hb1
  dsimp only
  rw [sortedHeap_old (Nat.ne_of_lt hlt) (by rw [size_push']; exact Nat.lt_succ_of_lt hlt), Heap.get?_push_ne _ _ _ (Nat.ne_of_lt hlt)]
  exact hb1
end
end NhSet
namespace PL
open PySem L2 Nh
noncomputable def setO (w : World) (a : Addr) (ks : List Str) : HO := .ext fun h => NhSet.StrSet w h a (NhSet.ledOf w) ks
theorem met_list (ns : List Str) (n : Nat) (h : n = ns.length) : NhSet.metS (fun i => ns.getD i ⟨#[]⟩) n = dedS ns := by
  have e : (List.range n).map (fun i => ns.getD i ⟨#[]⟩) = ns := by
    subst h
    refine List.ext_getElem (by simp) fun i h1 h2 => ?_
    simp [h2]
  show ((List.range n).map (fun i => ns.getD i ⟨#[]⟩)).foldl NhSet.addS [] = ns.foldl adS []
  rw [e]
  rfl
theorem met_signs (x : Str) : NhSet.metS (NhSet.signOf x) x.cps.size = dedS (sgnS x) := by
  have e : (List.range x.cps.size).map (NhSet.signOf x) = sgnS x := by
    refine List.ext_getElem (by simp [sgnS]) fun i h1 h2 => ?_
    have hi : i < x.cps.size := by simpa using h1
    simp [sgnS, NhSet.signOf, hi]
  show ((List.range x.cps.size).map (NhSet.signOf x)).foldl NhSet.addS [] = (sgnS x).foldl adS []
  rw [e]
  rfl
section
variable {X : Cx} {e : Expr} {m1 : Bool} {f : PEv} {p p2 pos pos2 : Pos}
noncomputable def rSet (K : PySem.W.Frag) (w : World) : List V → Hp → VK → Prop := fun xs H Q =>
  (∃ (p : Addr) (ss : List Str), xs = [.ref p] ∧ SqL K H p (ss.map V.str) ∧ ss.length < 4000 ∧ ∀ a, H a = none → Q (.ref a) (upd H a (setO w a (dedS ss)))) ∨
  ∃ x : Str, xs = [.str x] ∧ (sgnS x).length < 4000 ∧ ∀ a, H a = none → Q (.ref a) (upd H a (setO w a (dedS (sgnS x))))
theorem call_setS (hc : X.calm = true) : CallR X (.type "set") (rSet X.K X.w) := by
  intro pins s σ H xs us Q I r h
  rcases h with ⟨p, ss, rfl, hq, hl, q⟩ | ⟨x, rfl, hl, q⟩
  · cases r with
    | cons r rr =>
      cases rr
      cases r
      obtain ⟨its, rv, pl, hz⟩ := I.list hq
      have hS := valsStrs rv
      have hlen : its.length = ss.length := by have := rv.length; simpa using this.symm
      refine NhSet.call_list (I.ok.hd hc) pl.isList (by simpa using hS) (by simp only [List.size_toArray, scanBound]; omega) fun h' tk S k => ?_
      rw [met_list ss its.toArray.size (by simpa using hlen)] at S
      exact ⟨.ref s.heap.objs.size, _, I.laid (fun b o e => k b o (Heap.lt_size e) e) (Nat.le_refl _) (show ObjOk X.prog X.w _ _ _ (setO X.w s.heap.objs.size (dedS ss)) from ⟨S, S.obj, fun h1 h2 T kk => T.at' kk⟩), rfl, q _ (I.hok.fresh (Nat.le_refl _))⟩
  · cases r with
    | cons r rr =>
      cases rr
      obtain ⟨t, rfl⟩ := r
      have hl2 : x.cps.size < 4000 := by simpa [sgnS] using hl
      refine NhSet.call_str (I.ok.hd hc) (by simp only [scanBound]; omega) fun h' tk S k => ?_
      rw [met_signs] at S
      exact ⟨.ref s.heap.objs.size, _, I.laid (fun b o e => k b o (Heap.lt_size e) e) (Nat.le_refl _) (show ObjOk X.prog X.w _ _ _ (setO X.w s.heap.objs.size (dedS (sgnS x))) from ⟨S, S.obj, fun h1 h2 T kk => T.at' kk⟩), rfl, q _ (I.hok.fresh (Nat.le_refl _))⟩
noncomputable def rSortSet (w : World) : List V → Hp → VK → Prop := fun xs H Q => ∃ (a : Addr) (ks : List Str), xs = [.ref a] ∧ H a = some (setO w a ks) ∧ ks.length < 64 ∧ ∀ l, H l = none → Q (.ref l) (upd H l (.lst ((sortS ks).map V.str)))
theorem call_sortSet (hc : X.calm = true) : CallR X (.builtin "sorted") (rSortSet X.w) := by
  intro pins s σ H xs us Q I r h
  obtain ⟨a, ks, rfl, ha, h64, q⟩ := h
  cases r with
  | cons r rr =>
    cases rr
    cases r
    obtain ⟨S, _, _⟩ : ObjOk X.prog X.w H s.heap a (setO X.w a ks) := I.hok a _ ha
    refine NhSet.sorted_set (I.ok.hd hc) S h64 fun s' l out e ss' k g o hl he b1 b2 b3 => ?_
    have := sortS_uniq b2 b3
    subst this
    have new : ObjOk X.prog X.w (upd H l (.lst ((sortS ks).map V.str))) s'.heap l (.lst ((sortS ks).map V.str)) := ⟨by rw [List.length_map, sortS_len]; exact smallE (by omega), out.toList, e, strsVals b1, he⟩
    exact ⟨.ref l, _, I.call' (ch := []) o (Un.laid k hl (I.hok.fresh hl)) (I.hok.laid k hl new) (by rw [g]; exact I.bare) (fun _ z => nomatch z), rfl, q _ (I.hok.fresh hl)⟩
theorem xe_sortset (hc : X.calm = true) (hg : Gl X "sorted") (hm : X.mg "sorted" = none) (hg2 : Gl X "set") (hm2 : X.mg "set" = none) (ha : EX X e m1 f) (he : starEach [e] X.env = [(false, eval e X.env)] := by rfl)
    (he2 : starEach [.Call (.Name "set" p2) [e] [] pos2] X.env = [(false, eval (.Call (.Name "set" p2) [e] [] pos2) X.env)] := by rfl) : EX X (.Call (.Name "sorted" p) [.Call (.Name "set" p2) [e] [] pos2] [] pos) m1 (pSortSet f) := by
  refine pe_imp (pe_callB (call_sortSet hc) hg hm PyProof.Rows.boot_sorted (pa_cons (pe_callTy (call_setS hc) hg2 hm2 PyProof.Rows.boot_set (pa_cons ha pa_nil he) (by decide) (by decide) he rfl) pa_nil he2) (by decide) (by decide) he2 rfl) fun σ H Q z => ?_
  obtain ⟨B, E, xs, Xs, res, E', fr, cl, e, q⟩ := z
  obtain ⟨⟨s, E1⟩, e1, e⟩ := Option.bind_eq_some_iff.mp e
  refine ⟨B, E, xs, Xs, s, E1, fr, cl, e1, fun v1 H1 ⟨F, A, fr1⟩ => ?_⟩
  obtain ⟨A', fr2⟩ := fr1.pop
  simp only at e
  split at e
  · rename_i ds ld
    obtain ⟨ss, es, e⟩ := Option.bind_eq_some_iff.mp e
    split at e
    · rename_i hc
      cases e
      have r := (fr1.look0 ld).1
      cases r with
      | lst h1 h2 =>
        have := strs_rp h2 es
        subst this
        exact .inl ⟨_, ss, rfl, h1, hc.1, fun a ha => ⟨a, _, rfl, upd_same, hc.2, fun l hl => q _ _ ⟨_, _, (fr2.grow (same_new ha _)).newl (strs_rpa _) hl⟩⟩⟩
    · cases e
  · rename_i x ld
    split at e
    · rename_i hc
      cases e
      have r := (fr1.look0 ld).1
      cases r
      exact .inr ⟨x, rfl, hc.1, fun a ha => ⟨a, _, rfl, upd_same, hc.2, fun l hl => q _ _ ⟨_, _, (fr2.grow (same_new ha _)).newl (strs_rpa _) hl⟩⟩⟩
    · cases e
  · cases e
end
end PL
namespace PL
open PySem L2 Nh
theorem xe_gint {X : Cx} {x : Str} {i : Int} {t : Tok} {pos : Pos} (hg : Gl X x) (hm : X.mg x = some (.int i t)) (hd : (x == ("__debug__" : Str)) = false := by decide) : EX X (.Name x pos) false (pC (.int i)) := by
  refine pe_imp (pe_glob (v := .int i) hg hm ⟨t, rfl⟩ hd) fun σ H Q z => ?_
  obtain ⟨B, E, xs, Xs, res, E', ⟨F, A, fr⟩, cl, e, q⟩ := z
  cases e
  exact q _ _ ⟨F, A, fr.push ⟨rfl, _, rfl, .int _⟩⟩
theorem xe_gstr {X : Cx} {x y : Str} {t : Tok} {pos : Pos} (hg : Gl X x) (hm : X.mg x = some (.str y t)) (hd : (x == ("__debug__" : Str)) = false := by decide) : EX X (.Name x pos) false (pC (.str y)) := by
  refine pe_imp (pe_glob (v := .str y) hg hm ⟨t, rfl⟩ hd) fun σ H Q z => ?_
  obtain ⟨B, E, xs, Xs, res, E', ⟨F, A, fr⟩, cl, e, q⟩ := z
  cases e
  exact q _ _ ⟨F, A, fr.push ⟨rfl, _, rfl, .str _⟩⟩
end PL
namespace PL
open PySem PySem.SeqAt
open AutoSeq1 (wpAny_loadPart')
open MeetsSeq MeetsSeq2 MeetsSeq3 SeqRoads2
noncomputable def RcGtAt (A : Around) (s : Shared) (y x : Value) (b : Bool) : Prop :=
  ∀ (prog : Program) (w : World) (E : Value → Shared → Prop) (Q : Value → Shared → Prop), Q (.bool b) s → wpAny (model prog w) A (richCompare .Gt y x) Q E s
theorem tuple_gtAt (l b : Addr) (items items2 : Array Value) (n n2 : Nat) (dd dd2 : Option Addr) (sl sl2 : Array (Option Value)) (e r : Nat → Bool) :
    Meets (Builtin.«tuple.__gt__» ⟨[.ref l, .ref b], []⟩)
      (fun A R s => s.heap.get? l = some { cls := .type "tuple", dict := dd, data := .seq items n, slots := sl } ∧ s.heap.get? b = some { cls := .type "tuple", dict := dd2, data := .seq items2 n2, slots := sl2 } ∧
        (∀ j (h1 : j < items.size) (h2 : j < items2.size), EqAt A.in1 s items[j] items2[j] (e j)) ∧ (∀ j (h1 : j < items.size) (h2 : j < items2.size), e j = false → RcGtAt A.in1 s items[j] items2[j] (r j)) ∧
        R (.ok (.ret (.bool (lexB e r (decide (items2.size < items.size)) (List.range (min items.size items2.size)))))) s) :=
  .of_wp fun prog w A R s h => by
    obtain ⟨hp, g, d, tk, os⟩ := s; obtain ⟨hl, hb, he, hr, h⟩ := h
    have f2 := AutoSeq1.sub_tuple_tuple
    have hZ : (items.toList.zip items2.toList).length = min items.size items2.size := by simp
    wp_walk using wpAny_loadPart' hl, wpAny_loadPart' hb, wpAny_forIn_list _ (fun rest b s' => b.1 = none ∧ s' = ⟨hp, g, d, tk, os⟩ ∧ ∃ i, rest = (items.toList.zip items2.toList).drop i ∧
      R (.ok (.ret (.bool (lexB e r (decide (items2.size < items.size)) ((List.range (min items.size items2.size)).drop i))))) ⟨hp, g, d, tk, os⟩) _
    case turn =>
      rintro ⟨y, x⟩ rest b s' ⟨hb', rfl, i, hz, hR⟩
      have hlt : i < (items.toList.zip items2.toList).length := by
        rcases Nat.lt_or_ge i (items.toList.zip items2.toList).length with h' | h'
        · exact h'
        · rw [List.drop_of_length_le h'] at hz; cases hz
      have hm : i < min items.size items2.size := hZ ▸ hlt
      have h1 : i < items.size := Nat.lt_of_lt_of_le hm (Nat.min_le_left _ _)
      have h2 : i < items2.size := Nat.lt_of_lt_of_le hm (Nat.min_le_right _ _)
      rw [List.drop_eq_getElem_cons hlt] at hz
      injection hz with hyx hrest
      have hy : y = items[i] := by have := congrArg Prod.fst hyx; simpa using this
      have hx : x = items2[i] := by have := congrArg Prod.snd hyx; simpa using this
      subst hy hx
      have hd : (List.range (min items.size items2.size)).drop i = i :: (List.range (min items.size items2.size)).drop (i + 1) := by simp [List.drop_eq_getElem_cons, hm]
      rw [hd, lexB] at hR
      refine wpAny_bind (he i h1 h2 prog w _ _ ?_)
      cases hy : e i with
      | true =>
        rw [hy, if_pos rfl] at hR
        wp_walk
        exact ⟨rfl, rfl, i + 1, hrest, hR⟩
      | false =>
        rw [hy, if_neg (by decide)] at hR
        rw [show (!false) = true from rfl, if_pos rfl]
        refine wpAny_bind (wpAny_rule (wpAny_bind (hr i h1 h2 hy prog w _ _ ?_)))
        wp_walk
        exact ⟨_, rfl, hR⟩
    case fin =>
      rintro ⟨b1, b2⟩ s' ⟨hb', rfl, i, hz, hR⟩
      simp only at hb'
      subst hb'
      have hge : min items.size items2.size ≤ i := by
        rcases Nat.lt_or_ge i (items.toList.zip items2.toList).length with h' | h'
        · rw [List.drop_eq_getElem_cons h'] at hz; cases hz
        · exact hZ ▸ h'
      rw [List.drop_of_length_le (by simpa using hge)] at hR
      wp_walk
      exact ⟨_, rfl, hR⟩
    case h =>
      exact ⟨rfl, rfl, 0, rfl, by simpa using h⟩
section
variable {A : Around} {s : Shared}
theorem RcGtAt.tuples {l b : Addr} {items items2 : Array Value} {e r : Nat → Bool} (hl : s.heap.IsTuple l items) (hb : s.heap.IsTuple b items2) (hu : A.units < cLine)
    (he : ∀ j (h1 : j < items.size) (h2 : j < items2.size), EqAt A.in1 s items[j] items2[j] (e j)) (hr : ∀ j (h1 : j < items.size) (h2 : j < items2.size), e j = false → RcGtAt A.in1 s items[j] items2[j] (r j)) : RcGtAt A s (.ref l) (.ref b) (lexB e r (decide (items2.size < items.size)) (List.range (min items.size items2.size))) := fun prog w E Q h => by
  obtain ⟨⟨cls, dd, data, sl⟩, ho, hc, n, hd⟩ := id hl
  obtain ⟨⟨cls2, dd2, data2, sl2⟩, ho2, hc2, n2, hd2⟩ := id hb
  simp only at hc hd hc2 hd2
  subst hc hd hc2 hd2
  exact richCompare_meets_room (op := .Gt) ⟨_, ho, rfl⟩ ⟨_, ho2, rfl⟩ F.slot_tuple_gt F.entry_tuple_gt (F.args_tuple_gt_2 _ _) (tuple_gtAt l b items items2 n n2 dd dd2 sl sl2 e r)
    ⟨ho, ho2, he, hr, show Value.bool _ ≠ Value.notImplemented ∧ Q (.bool _) s from ⟨(fun x => nomatch x), h⟩⟩ hu
theorem RcGtAt.ints (i j : Int) (t u : Tok) : RcGtAt A s (.int i t) (.int j u) (decide (j < i)) := fun prog w E Q h => PyProof.Rows.gt_int h
end
end PL
namespace Nh
open PySem L2
theorem NailsOk.stp {r : List Pc} {p : Pc} (h : NailsOk r) (hp : p.1 < 128) : NailsOk (NH.stp r p) := by
  cases r with
  | nil =>
    show NailsOk (if p.2 = 0 then [] else [p])
    split
    · exact h
    · intro q hq; rw [List.mem_singleton.mp hq]; exact hp
  | cons x r =>
    rw [NH.stp_cons]
    intro q hq
    rcases List.mem_append.mp hq with h1 | h1
    · unfold NH.hd2 at h1
      split at h1
      · split at h1
        · cases h1
        · rw [List.mem_singleton.mp h1]; exact hp
      · split at h1
        · rw [List.mem_singleton.mp h1]; exact h x (List.mem_cons_self ..)
        · rcases List.mem_cons.mp h1 with h2 | h2
          · rw [h2]; exact hp
          · rw [List.mem_singleton.mp h2]; exact h x (List.mem_cons_self ..)
    · exact h q (List.mem_cons_of_mem _ h1)
theorem NailsOk.foldl : ∀ (c : List Pc) {r : List Pc}, NailsOk r → NailsOk c → NailsOk (c.foldl NH.stp r)
  | [], _, h, _ => h
  | p :: c, _, h, hc => NailsOk.foldl c (h.stp (hc p (List.mem_cons_self ..))) fun q hq => hc q (List.mem_cons_of_mem _ hq)
theorem NailsOk.take {c : List Pc} (h : NailsOk c) (i : Nat) : NailsOk (c.take i) := fun p hp => h p (List.mem_of_mem_take hp)
theorem NailsOk.drop {c : List Pc} (h : NailsOk c) (i : Nat) : NailsOk (c.drop i) := fun p hp => h p (List.mem_of_mem_drop hp)
theorem NailsOk.reverse {c : List Pc} (h : NailsOk c) : NailsOk c.reverse := fun p hp => h p (List.mem_reverse.mp hp)
theorem NailsOk.append {c d : List Pc} (h : NailsOk c) (h' : NailsOk d) : NailsOk (c ++ d) := fun p hp => (List.mem_append.mp hp).elim (h p) (h' p)
theorem NailsOk.short {c : List Pc} (h : NailsOk c) : NailsOk (NH.short c) := (NailsOk.foldl c (fun _ z => by cases z) h).reverse
end Nh
namespace Nh
open PySem L2 PL
theorem NailsOk.rep {c : List Pc} (h : NailsOk c) (k : Nat) : NailsOk (List.replicate k c).flatten := fun p hp => by
  obtain ⟨l, hl, hpl⟩ := List.mem_flatten.mp hp
  rw [(List.mem_replicate.mp hl).2] at hpl
  exact h p hpl
noncomputable def l4 (i : Int) : Nat := [97, 98, 99, 122].getD i.toNat 97
theorem az_at : ∀ j, j < 26 → (Str.ofString "abcdefghijklmnopqrstuvwxyz").cps.toList[j]? = some (97 + j) := by decide +kernel
theorem az_m (v : Int) : atI (Str.ofString "abcdefghijklmnopqrstuvwxyz").cps.toList (v % 26) = some (97 + (v % 26).toNat) := by
  have h0 := Int.emod_nonneg v (show (26 : Int) ≠ 0 by decide)
  have h1 := Int.emod_lt_of_pos v (show (0 : Int) < 26 by decide)
  rw [atI_nn h0]
  exact az_at _ (by omega)
theorem len_az : (Str.ofString "abcdefghijklmnopqrstuvwxyz").length ≤ 1000000 := by decide +kernel
theorem okMul_r {i j : Int} (h1 : -(2 ^ 64) < j) (h2 : j < 2 ^ 64) : okMul i j = true := by
  simp only [okMul, Bool.or_eq_true, decide_eq_true_eq]
  exact .inl (.inr ⟨h1, h2⟩)
theorem okMul_l {i j : Int} (h1 : -(2 ^ 64) < i) (h2 : i < 2 ^ 64) : okMul i j = true := by
  simp only [okMul, Bool.or_eq_true, decide_eq_true_eq]
  exact .inl (.inl ⟨h1, h2⟩)
theorem okDiv_of {j : Int} (h1 : 0 < j) (h2 : j < 2 ^ 200) : okDiv j = true := decide_eq_true ⟨h1, h2⟩
theorem dEq_int (i j : Int) : dEq (.int i) (.int j) = some (decide (i = j)) := rfl
theorem dEq_str (i j : Str) : dEq (.str i) (.str j) = some (decide (i = j)) := rfl
theorem dEq_bool (i j : Bool) : dEq (.bool i) (.bool j) = some (decide (i = j)) := rfl
end Nh
namespace L2
open PySem PySem.Spec PyProof.Rows
noncomputable def TabAt (K : PySem.W.Frag) (h : Heap) : Prop := ∀ b q, tabQ K b = some q → h.get? b = some (PySem.W.tabObj #[]) ∧ (∃ c, PySem.W.CodeHd h c b) ∧ K.lookup b = none
noncomputable def entryH (K : PySem.W.Frag) (a : Addr) (so : Option HO) : Hp := fun b => match tabQ K b with
  | some q => some (.tbl q)
  | none => if b = a then so else none
theorem entryH_tab {K : PySem.W.Frag} {a b : Addr} {so : Option HO} {q : Str} (e : tabQ K b = some q) : entryH K a so b = some (.tbl q) := by unfold entryH; rw [e]
theorem entryH_at {K : PySem.W.Frag} {a : Addr} {so : Option HO} (e : tabQ K a = none) : entryH K a so a = so := by unfold entryH; rw [e]; exact if_pos rfl
theorem entryH_some {K : PySem.W.Frag} {a b : Addr} {so : Option HO} {u : HO} (e : entryH K a so b = some u) : (∃ q, tabQ K b = some q ∧ u = .tbl q) ∨ (b = a ∧ so = some u) := by
  unfold entryH at e
  split at e
  · rename_i q h; cases e; exact .inl ⟨q, h, rfl⟩
  · by_cases hb : b = a
    · rw [if_pos hb] at e; exact .inr ⟨hb, e⟩
    · rw [if_neg hb] at e; cases e
section
variable {P : Program} {w : World} {K : PySem.W.Frag} {mg mb : Str → Option Value} {CX : CXT} {k : Nat} {fa a : Addr} {fd : FuncData} {x : Str} {sp : Sp} {s₁ : Shared} {vs : List Value} {ns : List Int}
theorem law_run (KX : K.In s₁.heap) (hns : s₁.heap.Ns mainGlobals mg) (hb : s₁.heap.Ns builtinsNs mb) (hbb : ∀ x : Str, x ≠ "__name__" → mb x = bootBuiltins x) (hlim : s₁.heap.NoLimit) (hg : s₁.gens = #[]) (hbm : ∃ bm ob, mg "__builtins__" = some (.ref bm) ∧ bm ≠ builtinsNs ∧ s₁.heap.get? bm = some ob ∧ ob.cls = .type "module" ∧ ob.dict = some builtinsNs ∧ ob.data = .plain) (hT : TabAt K s₁.heap)
    (ha : s₁.heap.get? a = some { cls := .type "list", data := .seq vs.toArray }) (hi : IntsAre vs ns) (hl : ns.length ≤ sizeLine) (hr : Room k callerA)
    (F : ∀ base : Heap, K.In base → base.Ns mainGlobals mg → FnOk P w K mg base CX k fa fd [x] sp) (hbind : ∀ (s : Shared) (u : Value), BindsTo s fd ⟨[u], []⟩ [(x, u)])
    (hsp : ∀ H : Hp, SqL K H a (ns.map V.int) → sp [.ref a] H (fun v _ => v = .bl true) fun _ _ _ => False)
    (hCX : ∀ H e s', CX [] H s₁ (fun _ _ _ => False) e s' → False) :
    codeAny (model P w) callerA (.call (.ref fa) ⟨[.ref a], []⟩) (fun r s' => r = .ok (.ret (.bool true)) ∧ OldK s₁.heap s'.heap ∧ s'.os = s₁.os ∧ AllBare s'.gens) s₁ := by
  have rv := vals_ints hi
  have lenV := hi.length
  have tabA : tabQ K a = none := by
    cases q : tabQ K a with
    | none => rfl
    | some z =>
      have e := (hT a z q).1
      rw [ha] at e
      cases e
  have main : ∀ so : Option HO, (so = none ∨ (so = some (.frz { cls := .type "list", data := .seq vs.toArray } (.lst (ns.map V.int))) ∧ K.lookup a = none)) → SqL K (entryH K a so) a (ns.map V.int) →
      codeAny (model P w) callerA (.call (.ref fa) ⟨[.ref a], []⟩) (fun r s' => r = .ok (.ret (.bool true)) ∧ OldK s₁.heap s'.heap ∧ s'.os = s₁.os ∧ AllBare s'.gens) s₁ := by
    intro so hso hS
    have hok : HOk P w (entryH K a so) s₁.heap := fun b u e => by
      rcases entryH_some e with ⟨q, e1, rfl⟩ | ⟨rfl, e1⟩
      · exact ObjOk.tbl0 (hT b q e1).1
      · rcases hso with z | ⟨z, _⟩
        · rw [z] at e1; cases e1
        · rw [z] at e1; cases e1
          exact ⟨ha, by rw [List.length_map]; exact hl, vs, _, rv, ha⟩
    have free : ∀ {b : Addr} {o : Obj} {es : Array DictEntry} {ep : Nat}, s₁.heap.get? b = some o → o.data = .dict es ep → entryH K a so b = none := fun {b o es ep} e d => by
      cases q : entryH K a so b with
      | none => rfl
      | some u =>
        rcases entryH_some q with ⟨z, e1, _⟩ | ⟨rfl, _⟩
        · rw [(hT b z e1).1] at e; cases e; cases d
        · rw [ha] at e; cases e; cases d
    have nsK : ∀ {b : Addr} {m : Str → Option Value}, s₁.heap.Ns b m → (hidT s₁.heap (entryH K a so)).Ns b m := fun {b m} ⟨o, es, ep, e, d, r⟩ => ⟨o, es, ep, hidT_get e (free e d), d, r⟩
    have kin : K.In (hidT s₁.heap (entryH K a so)) := fun b o e => hidT_get (KX b o e) (by
      cases q : entryH K a so b with
      | none => rfl
      | some u =>
        rcases entryH_some q with ⟨z, e1, _⟩ | ⟨rfl, e1⟩
        · rw [(hT b z e1).2.2] at e; cases e
        · rcases hso with z | ⟨_, z⟩
          · rw [z] at e1; cases e1
          · rw [z] at e; cases e)
    have bmK : ∃ bm ob, mg "__builtins__" = some (.ref bm) ∧ bm ≠ builtinsNs ∧ (hidT s₁.heap (entryH K a so)).get? bm = some ob ∧ ob.cls = .type "module" ∧ ob.dict = some builtinsNs ∧ ob.data = .plain := by
      obtain ⟨bm, ob, c1, c2, c3, c4, c5⟩ := hbm
      refine ⟨bm, ob, c1, c2, hidT_get c3 ?_, c4, c5⟩
      cases q : entryH K a so bm with
      | none => rfl
      | some u =>
        rcases entryH_some q with ⟨z, e1, _⟩ | ⟨rfl, _⟩
        · rw [(hT bm z e1).1] at c3; cases c3; cases c4
        · rw [ha] at c3
          cases c3
          injection c4 with c6
          exact absurd c6 (by decide)
    have e0 : Env0 P w K mg (hidT s₁.heap (entryH K a so)) callerA [] s₁ (entryH K a so) :=
      ⟨rfl, ⟨kin, nsK hns, ⟨mb, nsK hb, hbb⟩, let ⟨mc, h1, h2⟩ := hlim; ⟨mc, nsK h1, h2⟩, bmK⟩, fun b o e => of_hidT e, Nat.le_of_eq (hidT_size _ _), trivial, fun b hb => absurd (show b ∈ ([] : List Addr) from hb) (by simp), hok, .of_eq hg, fun b q e => entryH_tab e⟩
    refine codeAny_mono ((F _ kin (nsK hns)).run callerA [] s₁ _ ⟨[.ref a], []⟩ [.ref a] [.ref a] _ _ hr e0 (hbind s₁ (.ref a)) (.cons rfl .nil) (hsp _ hS)) fun r s' h => ?_
    cases r with
    | error e => exact (hCX _ e s' h).elim
    | ok fl =>
      cases fl with
      | next => exact False.elim h
      | brk => exact False.elim h
      | cont => exact False.elim h
      | ret u =>
        obtain ⟨v, H', os, bare, un, hok', r', q⟩ := h
        have q' : v = .bl true := q
        subst q'
        obtain rfl : u = Value.bool true := r'
        have nofs : ∀ b, b ∉ frs ([] : List Env) := fun b z => absurd (show b ∈ ([] : List Addr) from z) (by simp)
        have step : ∀ b o, s₁.heap.get? b = some o → asItWas s₁.heap s'.heap b o ∧ ∃ o', s'.heap.get? b = some o' := fun b o e => by
          cases q : entryH K a so b with
          | none => exact ⟨.inl (un.keep b o e q (nofs b) (by simp)), _, un.keep b o e q (nofs b) (by simp)⟩
          | some u =>
            rcases entryH_some q with ⟨z, e1, rfl⟩ | ⟨rfl, e1⟩
            · obtain ⟨t1, ⟨c, t2⟩, _⟩ := hT b z e1
              obtain ⟨ps, p1, _⟩ := hok' b _ (un.tbls b z q)
              rw [t1] at e
              cases e
              exact ⟨.inr (.inl ⟨(t2.tab t1).isCodeTable, rfl, #[], ps, rfl, by simpa using p1⟩), _, p1⟩
            · rcases hso with z | ⟨z, _⟩
              · rw [z] at e1; cases e1
              · rw [z] at e1; cases e1
                have z2 := un.frzs b _ _ q
                obtain ⟨e2, _⟩ := hok' b _ z2
                rw [ha] at e; cases e
                exact ⟨.inl e2, _, e2⟩
        exact ⟨rfl, ⟨fun b o e => (step b o e).1, fun b o e => (step b o e).2⟩, os, bare⟩
  cases hk : K.lookup a with
  | some o =>
    have e := KX a o hk
    rw [ha] at e
    cases e
    exact main none (.inl rfl) (.inr ⟨_, vs.toArray, _, hk, rfl, rfl, rfl, by rw [List.size_toArray, lenV]; exact hl, by simpa using rv⟩)
  | none => exact main _ (.inr ⟨rfl, hk⟩) (.inl (.inr ⟨_, entryH_at tabA⟩))
end
theorem walk_tab {l : PySem.W.OpenLaw} {n k : Nat} {q : Program} {loose : List Str} {XP : (Str → Option Value) → Heap → Prop} {YP : World → Heap → Prop} {d : DefRec} {K : Params → PySem.W.Frag} {CX : World → CXT} {sp : World → Sp} {x : Str}
    (hn : l.most = some n) (hn2 : n ≤ sizeLine) (hdf : d.params.defaults = []) (hr : Room k callerA)
    (hY : ∀ (w : World) (h : Heap), YP w h → (K w.params).In h ∧ TabAt (K w.params) h)
    (F : ∀ (w : World) (mg : Str → Option Value) (fa : Addr) (h : Heap), (K w.params).In h → h.Ns mainGlobals mg → mg d.name = some (.ref fa) →
      ∃ fd : FuncData, (∀ (s : Shared) (u : Value), BindsTo s fd ⟨[u], []⟩ [(x, u)]) ∧
        ∀ base : Heap, (K w.params).In base → base.Ns mainGlobals mg → FnOk l.prog w (K w.params) mg base (CX w) k fa fd [x] (sp w))
    (hsp : ∀ (w : World) (H : Hp) (a : Addr) (ns : List Int), ns.length ≤ n → SqL (K w.params) H a (ns.map V.int) → sp w [.ref a] H (fun v _ => v = .bl true) fun _ _ _ => False)
    (hCX : ∀ (w : World) (H : Hp) (s : Shared) (e : Value) (s' : Shared), CX w [] H s (fun _ _ _ => False) e s' → False) :
    PySem.W.WalkO q loose XP YP l.row.toRowW d [] (fun f vs => PySem.call f vs) := by
  refine Att.attach_call hn hdf fun w s₀ s₁ mg mb fa o pm cd doc a vs ns G Y ho hd hcd hmg hobj hints hlen hg => ?_
  obtain ⟨KX, KT⟩ := hY w _ Y
  obtain ⟨fd, hb, hF⟩ := F w mg fa _ KX G.T.g hmg
  exact law_run KX G.T.g G.T.b G.T.builtins G.T.nolimit hg G.T.bmain KT hobj hints (Nat.le_trans hlen hn2) hr hF hb (fun H hS => hsp w H a ns hlen hS) fun H e s' => hCX w H s₁ e s'
end L2
namespace NhSH
open PySem PySem.W PyProof.Rows
noncomputable def at' (p : Array Nat) (i : Nat) : Nat := p.getD i 0
noncomputable def Val (N : Nat) (p : Array Nat) : Prop := p.Perm (List.range N).toArray
theorem Val.size {N : Nat} {p : Array Nat} (h : Val N p) : p.size = N := by
  have := h.size_eq
  simpa using this
theorem Val.lt {N : Nat} {p : Array Nat} (h : Val N p) {i : Nat} (hi : i < N) : at' p i < N := by
  have hz := h.size
  have e : at' p i = p[i] := by simp [at', Array.getD, hz, hi]
  have m : p[i] ∈ (List.range N).toArray := h.mem_iff.mp (Array.getElem_mem _)
  rw [e]
  simpa using m
theorem at_get (p : Array Nat) (i : Nat) : at' p i = (p[i]?).getD 0 := Array.getD_eq_getD_getElem? ..
theorem at_rev {p : Array Nat} {i j : Nat} (hj : j ≤ p.size) (k : Nat) : at' (kas_rev p i j) k = if i ≤ k ∧ k < j then at' p (i + j - 1 - k) else at' p k := by
  rw [at_get, kas_rev, getElem?_mirror_all hj]
  split <;> rw [at_get]
theorem at_bub {p : Array Nat} {k d : Nat} (hk : k < p.size) (hd : d ≤ k) (i : Nat) : at' (bubble p k d) i = if i = k - d then at' p k else if k - d < i ∧ i ≤ k then at' p (i - 1) else at' p i := by
  rw [at_get, getElem?_bubble hk d hd]
  repeat' split
  all_goals rw [at_get]
theorem Val.rev {N : Nat} {p : Array Nat} (h : Val N p) (i j : Nat) : Val N (kas_rev p i j) := (mirror_perm _ _ _ _).trans h
theorem Val.bub {N : Nat} {p : Array Nat} (h : Val N p) (k d : Nat) : Val N (bubble p k d) := (bubble_perm _ _ _).trans h
structure Ord (N : Nat) (lt : Nat → Nat → Bool) : Prop where
  trans : ∀ i j k, i < N → j < N → k < N → lt j i = false → lt k j = false → lt k i = false
  asym : ∀ i j, i < N → j < N → lt i j = true → lt j i = false
theorem Ord.refl {N : Nat} {lt : Nat → Nat → Bool} (O : Ord N lt) {i : Nat} (h : i < N) : lt i i = false := by
  cases e : lt i i with
  | false => rfl
  | true => have := O.asym i i h h e; rw [e] at this; cases this
noncomputable def Up (lt : Nat → Nat → Bool) (p : Array Nat) (b : Nat) : Prop := ∀ i j, i < j → j < b → lt (at' p j) (at' p i) = false
noncomputable def Dn (lt : Nat → Nat → Bool) (p : Array Nat) (b : Nat) : Prop := ∀ i j, i < j → j < b → lt (at' p i) (at' p j) = false
noncomputable def Eqs (lt : Nat → Nat → Bool) (p : Array Nat) (n q : Nat) : Prop := ∀ i, n - (q + 1) ≤ i → i < n → lt (at' p i) (at' p (n - 1)) = false ∧ lt (at' p (n - 1)) (at' p i) = false
section
variable {N : Nat} {lt : Nat → Nat → Bool} {p : Array Nat} {cmp : Nat → Nat → (Bool → Shared → Prop) → Shared → Prop} {s : Shared}
theorem Up.step (O : Ord N lt) (v : Val N p) {n : Nat} (h1 : 1 ≤ n) (hn : n < N) (u : Up lt p n) (h : lt (at' p n) (at' p (n - 1)) = false) : Up lt p (n + 1) := fun i j hij hj => by
  by_cases e : j < n
  · exact u i j hij e
  · have ej : j = n := by omega
    subst ej
    by_cases ei : i = j - 1
    · rw [ei]; exact h
    · exact O.trans _ _ _ (v.lt (by omega)) (v.lt (by omega)) (v.lt hn) (u i (j - 1) (by omega) (by omega)) h
theorem Dn.step (O : Ord N lt) (v : Val N p) {n : Nat} (h1 : 1 ≤ n) (hn : n < N) (u : Dn lt p n) (h : lt (at' p (n - 1)) (at' p n) = false) : Dn lt p (n + 1) := fun i j hij hj => by
  by_cases e : j < n
  · exact u i j hij e
  · have ej : j = n := by omega
    subst ej
    by_cases ei : i = j - 1
    · rw [ei]; exact h
    · exact O.trans _ _ _ (v.lt hn) (v.lt (by omega)) (v.lt (by omega)) h (u i (j - 1) (by omega) (by omega))
theorem asc_wp (O : Ord N lt) (v : Val N p) (hc : ∀ i j C, i < N → j < N → C (lt i j) s → cmp i j C s) : ∀ (f n : Nat) (Q : Nat → Shared → Prop), 1 ≤ n → n + f ≤ N → Up lt p n →
    (∀ m, n ≤ m → m ≤ n + f → Up lt p m → (m < n + f → lt (at' p m) (at' p (m - 1)) = true) → Q m s) → (kas_asc p f n).kasWp cmp Q s
  | 0, n, Q, h1, hn, u, hq => hq n (Nat.le_refl _) (Nat.le_refl _) u (fun z => absurd z (Nat.lt_irrefl _))
  | f + 1, n, Q, h1, hn, u, hq => by
    refine hc _ _ _ (v.lt (by omega)) (v.lt (by omega)) ?_
    cases e : lt (p.getD n 0) (p.getD (n - 1) 0) with
    | true => exact hq n (Nat.le_refl _) (by omega) u (fun _ => e)
    | false =>
      exact asc_wp O v hc f (n + 1) Q (by omega) (by omega) (u.step O v h1 (by omega) e) fun m a b c d => hq m (by omega) (by omega) c (fun z => d (by omega))
theorem dn_rev (O : Ord N lt) (v : Val N p) {n q : Nat} (hn : n ≤ N) (hq : q + 1 ≤ n) (u : Dn lt p n) (e : Eqs lt p n q) : Dn lt (kas_rev p (n - (q + 1)) n) n := fun i j hij hj => by
  rw [at_rev (by rw [v.size]; exact hn), at_rev (by rw [v.size]; exact hn)]
  by_cases a : n - (q + 1) ≤ i
  · rw [if_pos ⟨a, by omega⟩, if_pos ⟨by omega, hj⟩]
    exact O.trans _ _ _ (v.lt (by omega)) (v.lt (i := n - 1) (by omega)) (v.lt (by omega)) (e _ (by omega) (by omega)).2 (e _ (by omega) (by omega)).1
  · rw [if_neg (by omega)]
    by_cases b : n - (q + 1) ≤ j
    · rw [if_pos ⟨b, hj⟩]
      exact u _ _ (by omega) (by omega)
    · rw [if_neg (by omega)]
      exact u i j hij hj
theorem desc_wp (O : Ord N lt) (hc : ∀ i j C, i < N → j < N → C (lt i j) s → cmp i j C s) : ∀ (f : Nat) (p : Array Nat) (n q : Nat) (Q : Array Nat × Nat × Nat → Shared → Prop), Val N p → q + 1 ≤ n → n + f ≤ N → Dn lt p n → Eqs lt p n q →
    (∀ p' m r, Val N p' → n ≤ m → m ≤ n + f → r + 1 ≤ m → Dn lt p' m → Eqs lt p' m r → Q (p', m, r) s) → (kas_desc f p n q).kasWp cmp Q s
  | 0, p, n, q, Q, v, h1, hn, u, e, hQ => hQ p n q v (Nat.le_refl _) (Nat.le_refl _) h1 u e
  | f + 1, p, n, q, Q, v, h1, hn, u, e, hQ => by
    refine hc _ _ _ (v.lt (by omega)) (v.lt (by omega)) ?_
    have one : ∀ {p' : Array Nat}, Val N p' → Eqs lt p' (n + 1) 0 := fun {p'} v' i hi hj => by
      have : i = n := by omega
      subst this
      exact ⟨O.refl (v'.lt (by omega)), O.refl (v'.lt (by omega))⟩
    cases c : lt (p.getD n 0) (p.getD (n - 1) 0) with
    | true =>
      have c' : lt (at' p (n - 1)) (at' p n) = false := O.asym _ _ (v.lt (by omega)) (v.lt (by omega)) c
      simp only [if_true]
      split
      · have v1 := v.rev (n - (q + 1)) n
        have u1 := dn_rev O v (by omega) h1 u e
        refine desc_wp O hc f _ (n + 1) 0 Q v1 (by omega) (by omega) (u1.step O v1 (by omega) (by omega) ?_) (one v1) fun p' m r a b d g h i => hQ p' m r a (by omega) (by omega) g h i
        rw [at_rev (by rw [v.size]; omega), at_rev (by rw [v.size]; omega), if_pos (by omega), if_neg (by omega)]
        exact O.trans _ _ _ (v.lt (by omega)) (v.lt (i := n - 1) (by omega)) (v.lt (by omega)) c' (e _ (by omega) (by omega)).1
      · exact desc_wp O hc f p (n + 1) 0 Q v (by omega) (by omega) (u.step O v (by omega) (by omega) c') (one v) fun p' m r a b d g h i => hQ p' m r a (by omega) (by omega) g h i
    | false =>
      simp only [Bool.false_eq_true, if_false]
      refine hc _ _ _ (v.lt (by omega)) (v.lt (by omega)) ?_
      cases d : lt (p.getD (n - 1) 0) (p.getD n 0) with
      | true => exact hQ p n q v (Nat.le_refl _) (by omega) h1 u e
      | false =>
        refine desc_wp O hc f p (n + 1) (q + 1) Q v (by omega) (by omega) (u.step O v (by omega) (by omega) d) (fun i hi hj => ?_) fun p' m r a b d g h i => hQ p' m r a (by omega) (by omega) g h i
        show lt (at' p i) (at' p n) = false ∧ lt (at' p n) (at' p i) = false
        by_cases z : i = n
        · rw [z]; exact ⟨O.refl (v.lt (by omega)), O.refl (v.lt (by omega))⟩
        · obtain ⟨e1, e2⟩ := e i (by omega) (by omega)
          exact ⟨O.trans _ _ _ (v.lt (by omega)) (v.lt (i := n - 1) (by omega)) (v.lt (by omega)) d e1, O.trans _ _ _ (v.lt (by omega)) (v.lt (i := n - 1) (by omega)) (v.lt (by omega)) e2 c⟩
theorem tail_wp (O : Ord N lt) (hc : ∀ i j C, i < N → j < N → C (lt i j) s → cmp i j C s) (v : Val N p) {n : Nat} (h1 : 1 ≤ n) (hn : n ≤ N) (u : Dn lt p n) {Q : Nat × Array Nat → Shared → Prop}
    (hQ : ∀ m p', Val N p' → 1 ≤ m → m ≤ N → Up lt p' m → Q (m, p') s) : (kas_tail3 n N p).kasWp cmp Q s := by
  unfold kas_tail3
  rw [KasT.kasWp_bind]
  have v1 := v.rev 0 n
  refine asc_wp O v1 hc _ n _ h1 (by omega) (fun i j hij hj => ?_) fun m a b c _ => hQ m _ v1 (by omega) (by omega) c
  rw [at_rev (by rw [v.size]; exact hn), at_rev (by rw [v.size]; exact hn), if_pos (by omega), if_pos (by omega)]
  exact u _ _ (by omega) (by omega)
theorem descPart_wp (O : Ord N lt) (hc : ∀ i j C, i < N → j < N → C (lt i j) s → cmp i j C s) (v : Val N p) {n : Nat} (h1 : 1 ≤ n) (hn : n < N) (u : Dn lt p (n + 1)) {Q : Nat × Array Nat → Shared → Prop}
    (hQ : ∀ m p', Val N p' → 1 ≤ m → m ≤ N → Up lt p' m → Q (m, p') s) : (kas_descPart n N p).kasWp cmp Q s := by
  unfold kas_descPart
  rw [KasT.kasWp_bind]
  refine desc_wp O hc _ p (n + 1) 0 _ v (by omega) (by omega) u (fun i hi hj => ?_) fun p' m r a b d g h i => ?_
  · have : i = n := by omega
    subst this
    exact ⟨O.refl (v.lt (by omega)), O.refl (v.lt (by omega))⟩
  · dsimp only
    split
    · exact tail_wp O hc (a.rev _ _) (by omega) (by omega) (dn_rev O a (by omega) g h i) hQ
    · exact tail_wp O hc a (by omega) (by omega) h hQ
theorem count_wp (O : Ord N lt) (hc : ∀ i j C, i < N → j < N → C (lt i j) s → cmp i j C s) (v : Val N p) (hN : 1 ≤ N) {Q : Nat × Array Nat → Shared → Prop}
    (hQ : ∀ m p', Val N p' → 1 ≤ m → m ≤ N → Up lt p' m → Q (m, p') s) : (kas_count N p).kasWp cmp Q s := by
  unfold kas_count
  rw [KasT.kasWp_bind]
  refine asc_wp O v hc _ 1 _ (by omega) (by omega) (fun i j hij hj => by omega) fun n a b u st => ?_
  by_cases e : n = N
  · rw [if_pos (by simp [e])]
    exact hQ n p v a (by omega) u
  · rw [if_neg (by simp [e])]
    have sn := st (by omega)
    have sn' : lt (at' p (n - 1)) (at' p n) = false := O.asym _ _ (v.lt (by omega)) (v.lt (by omega)) sn
    split
    · refine hc _ _ _ (v.lt (by omega)) (v.lt (by omega)) ?_
      cases c : lt (p.getD 0 0) (p.getD (n - 1) 0) with
      | true => exact hQ n p v a (by omega) u
      | false =>
        have v1 := v.rev 0 n
        have all : ∀ x y, x < n → y < n → lt (at' p x) (at' p y) = false := fun x y hx hy => by
          have l0 : lt (at' p x) (at' p 0) = false := by
            by_cases z : x = 0
            · rw [z]; exact O.refl (v.lt (by omega))
            · exact u 0 x (by omega) hx
          have l1 : lt (at' p (n - 1)) (at' p y) = false := by
            by_cases z : y = n - 1
            · rw [z]; exact O.refl (v.lt (by omega))
            · exact u y (n - 1) (by omega) (by omega)
          exact O.trans _ _ _ (v.lt (by omega)) (v.lt (i := 0) (by omega)) (v.lt (by omega)) (O.trans _ _ _ (v.lt (by omega)) (v.lt (i := n - 1) (by omega)) (v.lt (by omega)) l1 c) l0
        refine descPart_wp O hc v1 a (by omega) (fun i j hij hj => ?_) hQ
        have hz : n ≤ p.size := by rw [v.size]; omega
        rw [at_rev hz, at_rev hz, if_pos (by omega)]
        by_cases z : j < n
        · rw [if_pos (by omega)]
          exact all _ _ (by omega) (by omega)
        · rw [if_neg (by omega), show j = n by omega]
          exact O.trans _ _ _ (v.lt (by omega)) (v.lt (i := n - 1) (by omega)) (v.lt (by omega)) sn' (all _ _ (by omega) (by omega))
    · have n1 : n = 1 := by omega
      subst n1
      refine descPart_wp O hc v a (by omega) (fun i j hij hj => ?_) hQ
      have : i = 0 := by omega
      have : j = 1 := by omega
      subst i j
      exact sn'
theorem place_wp (O : Ord N lt) (hc : ∀ i j C, i < N → j < N → C (lt i j) s → cmp i j C s) (v : Val N p) {k : Nat} (hk : k < N) (u : Up lt p k) : ∀ (f l r : Nat) (Q : Nat → Shared → Prop), r ≤ k → l ≤ r → r - l ≤ f →
    (∀ i, i < l → lt (at' p k) (at' p i) = false) → (∀ i, r ≤ i → i < k → lt (at' p k) (at' p i) = true) →
    (∀ m, m ≤ k → (∀ i, i < m → lt (at' p k) (at' p i) = false) → (∀ i, m ≤ i → i < k → lt (at' p k) (at' p i) = true) → Q m s) → (kas_place p k f l r).kasWp cmp Q s
  | 0, l, r, Q, h1, h2, h3, a, b, hQ => hQ l (by omega) a (fun i hi => b i (by omega))
  | f + 1, l, r, Q, h1, h2, h3, a, b, hQ => by
    unfold kas_place
    split
    · exact hQ l (by omega) a (fun i hi => b i (by omega))
    · refine hc _ _ _ (v.lt hk) (v.lt (by omega)) ?_
      have le' : ∀ x y, x ≤ y → y < k → lt (at' p y) (at' p x) = false := fun x y hx hy => by
        by_cases z : x = y
        · rw [z]; exact O.refl (v.lt (by omega))
        · exact u x y (by omega) hy
      cases c : lt (p.getD k 0) (p.getD ((l + r) / 2) 0) with
      | true =>
        refine place_wp O hc v hk u f l ((l + r) / 2) Q (by omega) (by omega) (by omega) a (fun i hi hik => ?_) hQ
        cases d : lt (at' p k) (at' p i) with
        | true => rfl
        | false =>
          have := O.trans _ _ _ (v.lt (i := (l + r) / 2) (by omega)) (v.lt (i := i) (by omega)) (v.lt hk) (le' _ _ hi hik) d
          exact absurd c (by rw [show lt (p.getD k 0) (p.getD ((l + r) / 2) 0) = false from this]; simp)
      | false =>
        exact place_wp O hc v hk u f ((l + r) / 2 + 1) r Q h1 (by omega) (by omega) (fun i hi => O.trans _ _ _ (v.lt (by omega)) (v.lt (i := (l + r) / 2) (by omega)) (v.lt hk) (le' _ _ (by omega) (by omega)) c) b hQ
theorem bin_wp (O : Ord N lt) (hc : ∀ i j C, i < N → j < N → C (lt i j) s → cmp i j C s) : ∀ (f : Nat) (p : Array Nat) (k : Nat) (Q : Array Nat → Shared → Prop), Val N p → k + f = N → Up lt p k →
    (∀ p', Val N p' → Up lt p' N → Q p' s) → (kas_bin f p k).kasWp cmp Q s
  | 0, p, k, Q, v, h, u, hQ => hQ p v (by rw [← h]; exact u)
  | f + 1, p, k, Q, v, h, u, hQ => by
    unfold kas_bin
    rw [KasT.kasWp_bind]
    refine place_wp O hc v (by omega) u k 0 k _ (Nat.le_refl _) (Nat.zero_le _) (by omega) (fun i hi => by omega) (fun i hi hj => by omega) fun m hm a b => ?_
    refine bin_wp O hc f _ (k + 1) Q (v.bub _ _) (by omega) (fun i j hij hj => ?_) hQ
    have hz : k < p.size := by rw [v.size]; omega
    rw [at_bub hz (by omega), at_bub hz (by omega), show k - (k - m) = m by omega]
    have asy : ∀ x, m ≤ x → x < k → lt (at' p x) (at' p k) = false := fun x hx hk => O.asym _ _ (v.lt (by omega)) (v.lt (by omega)) (b x hx hk)
    by_cases c1 : j = m
    · rw [if_pos c1, if_neg (by omega), if_neg (by omega)]
      exact a i (by omega)
    · rw [if_neg c1]
      by_cases c2 : m < j
      · rw [if_pos ⟨c2, by omega⟩]
        by_cases c3 : i = m
        · rw [if_pos c3]; exact asy _ (by omega) (by omega)
        · rw [if_neg c3]
          by_cases c4 : m < i
          · rw [if_pos ⟨c4, by omega⟩]; exact u _ _ (by omega) (by omega)
          · rw [if_neg (by omega)]; exact u _ _ (by omega) (by omega)
      · rw [if_neg (by omega), if_neg (by omega), if_neg (by omega)]
        exact u _ _ hij (by omega)
theorem sort_wp (O : Ord N lt) (hc : ∀ i j C, i < N → j < N → C (lt i j) s → cmp i j C s) (hN : 1 ≤ N) {G : Array Nat → Shared → Prop} (hG : ∀ p, Val N p → Up lt p N → G p s) : (kas_sort N).kasWp cmp G s := by
  unfold kas_sort
  rw [KasT.kasWp_bind]
  refine count_wp O hc (show Val N _ from Array.Perm.refl _) hN fun m p' v h1 h2 u => ?_
  dsimp only
  split
  · exact bin_wp O hc _ p' _ G v (by omega) (by rw [show max m 1 = m by omega]; exact u) hG
  · exact hG p' v (by rw [show N = m by omega]; exact u)
end
end NhSH
namespace NhSG
set_option autoImplicit false
open PySem PyProof PyProof.Rows PySem.W
noncomputable abbrev Ky := Int × List Nat
noncomputable def ltKy (a b : Ky) : Bool := decide (a.1 < b.1) || (decide (a.1 = b.1) && decide (a.2 < b.2))
theorem ltKy_iff {a b : Ky} : ltKy a b = true ↔ a.1 < b.1 ∨ (a.1 = b.1 ∧ a.2 < b.2) := by simp [ltKy]
theorem ltKy_no {a b : Ky} : ltKy a b = false ↔ ¬ (a.1 < b.1 ∨ (a.1 = b.1 ∧ a.2 < b.2)) := by rw [← ltKy_iff]; simp
noncomputable def keyT (hp : Heap) : Value → Option Ky
  | .ref a => (hp.get? a).bind fun o => match o.data with
    | .seq xs _ => match xs.toList with
      | [.int n _, .str z _] => some (n, z.cps.toList)
      | _ => none
    | _ => none
  | _ => none
theorem keyT_at {hp : Heap} {a : Addr} {o : Obj} {xs : Array Value} {k : Nat} {n : Int} {t u : Tok} {z : Str} (ho : hp.get? a = some o) (hd : o.data = .seq xs k) (hx : xs.toList = [.int n t, .str z u]) : keyT hp (.ref a) = some (n, z.cps.toList) := by
  simp [keyT, ho, hd, hx]
theorem keyT_of {hp : Heap} {v : Value} {y : Ky} (h : keyT hp v = some y) : ∃ a o xs k t z u, v = .ref a ∧ hp.get? a = some o ∧ o.data = .seq xs k ∧ xs.toList = [.int y.1 t, .str z u] ∧ y.2 = z.cps.toList := by
  unfold keyT at h
  split at h
  · rename_i a
    obtain ⟨o, ho, h⟩ := Option.bind_eq_some_iff.mp h
    split at h
    · rename_i xs k hd
      split at h
      · rename_i n t z u hx
        cases h
        exact ⟨a, o, xs, k, t, z, u, rfl, ho, hd, hx, rfl⟩
      · cases h
    · cases h
  · cases h
@[reducible] noncomputable def tupKind (hp : Heap) : PyProof.Rows.KeyKind where
  α := Ky
  blt := ltKy
  irrefl a := by
    rw [ltKy_no]
    rintro (h | h)
    · omega
    · exact List.lt_irrefl _ h.2
  trans a b c h1 h2 := by
    rw [ltKy_iff] at *
    rcases h1 with h1 | h1
    · rcases h2 with h2 | h2
      · exact .inl (by omega)
      · exact .inl (by omega)
    · rcases h2 with h2 | h2
      · exact .inl (by omega)
      · exact .inr ⟨by omega, List.lt_trans h1.2 h2.2⟩
  negTrans a b c h := by
    rw [ltKy_iff] at *
    rw [ltKy_iff]
    by_cases hab : a.1 < b.1
    · exact .inl (.inl hab)
    · by_cases hbc : b.1 < c.1
      · exact .inr (.inl hbc)
      · have e : a.1 = c.1 ∧ a.2 < c.2 := by
          rcases h with h | h
          · omega
          · exact h
        by_cases hab2 : a.2 < b.2
        · exact .inl (.inr ⟨by omega, hab2⟩)
        · exact .inr (.inr ⟨by omega, List.lt_of_le_of_lt (List.not_lt.mp hab2) e.2⟩)
  total a b h1 h2 := by
    rw [ltKy_no] at *
    have e : a.1 = b.1 := by
      have n1 : ¬ a.1 < b.1 := fun z => h1 (.inl z)
      have n2 : ¬ b.1 < a.1 := fun z => h2 (.inl z)
      omega
    have e2 : a.2 = b.2 := List.le_antisymm (List.not_lt.mp fun z => h2 (.inr ⟨e.symm, z⟩)) (List.not_lt.mp fun z => h1 (.inr ⟨e, z⟩))
    exact Prod.ext e e2
  keyOf := keyT hp
  dflt := (0, [])
noncomputable def LtG (prog : Program) (w : World) (A : Around) (κ : PyProof.Rows.KeyKind) (kd : SortKind) (s : Shared) : Prop :=
  ∀ (E : Value → Shared → Prop) (x y : Value) (a b : κ.α) {Q : Bool → Shared → Prop}, κ.keyOf x = some a → κ.keyOf y = some b → Q (κ.blt a b) s → wpAny (model prog w) A (keyLt' kd x y) Q E s
theorem ltG_tup {prog : Program} {w : World} {A : Around} {s : Shared} : LtG prog w A (tupKind s.heap) (tuples' true) s := fun E x y a b Q ha hb hq => by
  obtain ⟨ax, ox, xs, kx, tx, zx, ux, rfl, hox, hdx, hxx, ea⟩ := keyT_of ha
  obtain ⟨ay, oy, ys, ky, ty, zy, uy, rfl, hoy, hdy, hyy, eb⟩ := keyT_of hb
  refine kat_lt hox hdx hoy hdy ?_
  have fin : decide (xs.size < ys.size) = false := by
    have l1 : xs.size = 2 := by rw [← Array.length_toList, hxx]; rfl
    have l2 : ys.size = 2 := by rw [← Array.length_toList, hyy]; rfl
    rw [l1, l2]
    rfl
  rw [hxx, hyy, fin]
  show KatLex prog w A true false Q [(.int a.1 tx, .int b.1 ty), (.str zx ux, .str zy uy)] 0 s
  refine kat_cons (wpAny_eqBool_int (kat_go (fun e1 => kat_yes (kat_cons (wpAny_eqBool_str (kat_go (fun e2 => kat_yes (kat_nil ?_)) (fun e2 => kat_no ?_))))) (fun e1 => kat_no ?_)))
  · have e1 : a.1 = b.1 := by simpa using e1
    have e2 : zx = zy := by simpa using e2
    have : ltKy a b = false := by
      rw [ltKy_no, ea, eb, e2]
      rintro (z | z)
      · omega
      · exact List.lt_irrefl _ z.2
    rw [← this]
    exact hq
  · have e1 : a.1 = b.1 := by simpa using e1
    show wpAny (model prog w) A (oneLt' false (.str zx ux) (.str zy uy)) Q _ s
    refine kat_one _ _ (PySem.P.lt_str ?_)
    have : ltKy a b = decide (zx.cps.toList < zy.cps.toList) := by
      unfold ltKy
      rw [← ea, ← eb]
      simp [e1]
    have hq' : Q (ltKy a b) s := hq
    rw [this] at hq'
    exact hq'
  · have e1 : ¬ a.1 = b.1 := by simpa using e1
    show wpAny (model prog w) A (oneLt' true (.int a.1 tx) (.int b.1 ty)) Q _ s
    refine oneLt_int ?_
    have : ltKy a b = decide (a.1 < b.1) := by
      unfold ltKy
      simp [e1]
    have hq' : Q (ltKy a b) s := hq
    rw [this] at hq'
    exact hq'
end NhSG
namespace NhSG
set_option autoImplicit false
open PySem PyProof PyProof.Rows PySem.W
noncomputable def Keep (h h' : Heap) : Prop := ∀ b o, h.get? b = some o → h'.get? b = some o
theorem Keep.refl (h : Heap) : Keep h h := fun _ _ e => e
theorem Keep.trans {h h1 h2 : Heap} (a : Keep h h1) (b : Keep h1 h2) : Keep h h2 := fun c o e => b c o (a c o e)
noncomputable def IsKy (hp : Heap) (v : Value) (y : Ky) : Prop := ∃ c o xs k t z u, v = .ref c ∧ hp.get? c = some o ∧ o.cls = .type "tuple" ∧ o.data = .seq xs k ∧ xs.toList = [.int y.1 t, .str z u] ∧ y.2 = z.cps.toList
theorem IsKy.keep {h h' : Heap} {v : Value} {y : Ky} (a : IsKy h v y) (k : Keep h h') : IsKy h' v y := by
  obtain ⟨c, o, xs, n, t, z, u, e, ho, r⟩ := a
  exact ⟨c, o, xs, n, t, z, u, e, k c o ho, r⟩
theorem IsKy.key {h : Heap} {v : Value} {y : Ky} (a : IsKy h v y) : keyT h v = some y := by
  obtain ⟨c, o, xs, n, t, z, u, rfl, ho, hc, hd, hx, e⟩ := a
  rw [keyT_at ho hd hx, ← e]
noncomputable def KA (hp : Heap) : List Value → List Ky → Prop
  | [], [] => True
  | v :: vs, y :: ys => IsKy hp v y ∧ KA hp vs ys
  | _, _ => False
theorem KA.keep {h h' : Heap} (k : Keep h h') : ∀ {vs : List Value} {ys : List Ky}, KA h vs ys → KA h' vs ys
  | [], [], _ => trivial
  | v :: vs, y :: ys, a => ⟨a.1.keep k, KA.keep k a.2⟩
  | [], _ :: _, a => a.elim
  | _ :: _, [], a => a.elim
theorem KA.len {h : Heap} : ∀ {vs : List Value} {ys : List Ky}, KA h vs ys → vs.length = ys.length
  | [], [], _ => rfl
  | v :: vs, y :: ys, a => by simp [KA.len a.2]
  | [], _ :: _, a => a.elim
  | _ :: _, [], a => a.elim
theorem KA.snoc {h : Heap} {v : Value} {y : Ky} (b : IsKy h v y) : ∀ {vs : List Value} {ys : List Ky}, KA h vs ys → KA h (vs ++ [v]) (ys ++ [y])
  | [], [], _ => ⟨b, trivial⟩
  | _ :: _, _ :: _, a => ⟨a.1, KA.snoc b a.2⟩
  | [], _ :: _, a => a.elim
  | _ :: _, [], a => a.elim
theorem KA.tups {h : Heap} : ∀ {vs : List Value} {ys : List Ky}, KA h vs ys → ∃ fs, KatTups h vs fs ∧ (∀ f ∈ fs, ∃ n t, f = .int n t) ∧ fs.length = vs.length
  | [], [], _ => ⟨[], trivial, (fun _ z => by cases z), rfl⟩
  | v :: vs, y :: ys, a => by
    obtain ⟨fs, t, hf, hl⟩ := KA.tups a.2
    obtain ⟨c, o, xs, n, tk, z, u, rfl, ho, hc, hd, hx, e⟩ := a.1
    refine ⟨.int y.1 tk :: fs, KatTups.cons ho hc hd ?_ t, fun f hm => ?_, by simp [hl]⟩
    · rw [← Array.getElem?_toList, hx]
      rfl
    · rcases List.mem_cons.mp hm with rfl | hm
      · exact ⟨_, _, rfl⟩
      · exact hf f hm
  | [], _ :: _, a => a.elim
  | _ :: _, [], a => a.elim
theorem KA.at {h : Heap} : ∀ {ks : List Value} {ys : List Ky} {i : Nat}, KA h ks ys → i < ks.length → keyT h (ks.getD i Value.none) = some (ys.getD i (0, []))
  | k :: ks, y :: ys, 0, a, _ => a.1.key
  | k :: ks, y :: ys, i + 1, a, hi => by
    have := KA.at (i := i) a.2 (by simpa using hi)
    simpa using this
  | [], _, _, _, hi => by simp at hi
  | _ :: _, [], _, a, _ => a.elim
noncomputable def OutK (ys : List Ky) (vs out : List Value) : Prop := ∃ ps : List (Ky × Value), ps.Perm (ys.zip vs) ∧ ps.Pairwise (fun p q => ltKy q.1 p.1 = false) ∧ out = ps.map (·.2)
noncomputable def ltY (ys : List Ky) (i j : Nat) : Bool := ltKy (ys.getD i (0, [])) (ys.getD j (0, []))
theorem ordY (ys : List Ky) (N : Nat) : NhSH.Ord N (ltY ys) where
  trans := fun i j k _ _ _ h1 h2 => by
    unfold ltY at *
    exact PyProof.Rows.KeyOrd.kle_trans (O := (tupKind default).toKeyOrd) h1 h2
  asym := fun i j _ _ h => PyProof.Rows.KeyOrd.klt_asymm (O := (tupKind default).toKeyOrd) h
theorem zip_range (ys : List Ky) (vs : List Value) (h : ys.length = vs.length) : (List.range vs.length).map (fun i => (ys.getD i ((0, []) : Ky), vs.getD i Value.none)) = ys.zip vs := by
  refine List.ext_getElem (by simp [h]) fun i h1 h2 => ?_
  have hi : i < vs.length := by simpa using h1
  have hi2 : i < ys.length := by omega
  simp [hi, hi2]
theorem out_of {ks : List Value} {ys : List Ky} {vs : List Value} {st : SortSt} {p : Array Nat} (hl : ks.length = vs.length) (hy : ys.length = vs.length) (har : arrOf st = p.map (kas_item (ks.toArray.zip vs.toArray))) (v : NhSH.Val vs.length p) (u : NhSH.Up (ltY ys) p vs.length) :
    OutK ys vs ((arrOf st).map (·.2)).toList := by
  refine ⟨p.toList.map (fun i => (ys.getD i ((0, []) : Ky), vs.getD i Value.none)), ?_, ?_, ?_⟩
  · rw [← zip_range ys vs hy]
    refine List.Perm.map _ ?_
    have := Array.perm_iff_toList_perm.mp v
    simpa using this
  · rw [List.pairwise_map, List.pairwise_iff_getElem]
    intro i j hi hj hij
    have hz := v.size
    have hj' : j < p.size := by simpa using hj
    have hi' : i < p.size := by simpa using hi
    have q := u i j hij (by omega)
    have e1 : NhSH.at' p i = p[i] := by simp [NhSH.at', Array.getD, hi']
    have e2 : NhSH.at' p j = p[j] := by simp [NhSH.at', Array.getD, hj']
    rw [e1, e2] at q
    exact q
  · rw [kat_snds hl har]
    simp [List.map_map]
section
variable {prog : Program} {w : World} {A : Around} {E : Value → Shared → Prop} {s : Shared} {a kS : Addr} {ks vs : List Value} {ys : List Ky} {e e1 : Nat} {P : PySem.Fin → Shared → Prop}
theorem sk_tail {st : SortSt} (hk : s.heap.get? kS = some (seqObj "list" ks.toArray e)) (ha : s.heap.get? a = some (seqObj "list" #[] e1)) (hka : kS ≠ a) (h64 : vs.length < 64) (hl : ks.length = vs.length) (hn : (arrOf st).size = vs.length) (hfl : failedOf st = none)
    (h : ∀ h' tk c, h'.get? a = some (seqObj "list" ((arrOf st).map (·.2)) c) → (∀ b o, b ≠ a → b ≠ kS → s.heap.get? b = some o → h'.get? b = some o) → P (.done (.ret .none)) { s with heap := h', toks := tk }) :
    wpAny (model prog w) A (ksk_tail a false e1 (.ref kS) st) P E s := by
  have s1 := Heap.SameBut.update s.heap kS (Obj.mapSeq fun _ => (#[] : Array Value))
  have na1 : (s.heap.update kS (Obj.mapSeq fun _ => (#[] : Array Value))).get? a = some (seqObj "list" #[] e1) := (s1.2 a hka.symm).trans ha
  have s2 := Heap.SameBut.update (s.heap.update kS (Obj.mapSeq fun _ => (#[] : Array Value))) a (Obj.mapSeq fun _ => (arrOf st).map (·.2))
  obtain ⟨c2, hc2⟩ : ∃ c2, ((s.heap.update kS (Obj.mapSeq fun _ => (#[] : Array Value))).update a (Obj.mapSeq fun _ => (arrOf st).map (·.2))).get? a = some (seqObj "list" ((arrOf st).map (·.2)) c2) := ⟨_, get?_update_seq na1 fun _ => (arrOf st).map (·.2)⟩
  unfold ksk_tail
  try dsimp only
  refine wpAny_bind (listUpdate_at hk rfl ?_ (by rw [List.size_toArray, sizeLine_eq]; omega) (Nat.zero_le _))
  refine wpAny_bind (wpAny_letGo ?_)
  refine wpAny_bind (seqEpoch_at na1 rfl ?_)
  simp only [Bool.false_eq_true, if_false]
  refine wpAny_bind (listUpdate_at na1 rfl ?_ (Nat.zero_le _) (by rw [Array.size_map, hn, sizeLine_eq]; omega))
  rw [hfl]
  simp only [bne_self_eq_false, Bool.false_eq_true, if_false]
  exact wpAny_pure (h _ _ c2 hc2 fun b o h1 h2 q => (s2.2 b h1).trans ((s1.2 b h2).trans q))
theorem sk_end (hK : KA s.heap ks ys) (hk : s.heap.get? kS = some (seqObj "list" ks.toArray e)) (ha : s.heap.get? a = some (seqObj "list" #[] e1)) (hka : kS ≠ a) (h64 : vs.length < 64) (hl : ks.length = vs.length)
    (h : ∀ h' tk out c, h'.get? a = some (seqObj "list" out c) → OutK ys vs out.toList → (∀ b o, b ≠ a → b ≠ kS → s.heap.get? b = some o → h'.get? b = some o) → P (.done (.ret .none)) { s with heap := h', toks := tk }) :
    wpAny (model prog w) A (ksk_end a false vs.toArray e1 (.ref kS) ks.toArray) P E s := by
  have hzs : (ks.toArray.zip vs.toArray).size = vs.length := by rw [Array.size_zip, List.size_toArray, List.size_toArray, hl, Nat.min_self]
  unfold ksk_end
  try dsimp only
  simp only [Bool.false_eq_true, if_false]
  by_cases h2 : vs.toArray.size < 2
  · rw [if_pos h2, if_pos h2]
    refine wpAny_bind (wpAny_pure ?_)
    rw [StateT.run_pure]
    refine wpAny_bind (wpAny_pure ?_)
    try dsimp only
    refine sk_tail (st := SortSt.mk' general' (ks.toArray.zip vs.toArray) #[] 7 none) hk ha hka h64 hl hzs rfl fun h' tk c h1 h3 => h h' tk _ c h1 ⟨ys.zip vs, List.Perm.refl _, ?_, ?_⟩ h3
    · rw [List.size_toArray] at h2
      rw [List.pairwise_iff_getElem]
      intro i j hi hj hij
      simp at hj
      omega
    · have e1 : (ys.zip vs).map (·.2) = vs := by rw [List.map_snd_zip]; have := hK.len; omega
      have e2 : ((arrOf (SortSt.mk' general' (ks.toArray.zip vs.toArray) #[] 7 none)).map (·.2)).toList = (ks.zip vs).map (·.2) := by
        show ((ks.toArray.zip vs.toArray).map (·.2)).toList = _
        simp
      rw [e1, e2, List.map_snd_zip]
      omega
  · rw [if_neg h2, if_neg h2]
    rw [List.size_toArray] at h2
    obtain ⟨fs, tt, hf, lf⟩ := hK.tups
    refine wpAny_bind (kat_kind (T := .type "int") tt (by omega) (fun v hv => ?_) (by decide) ?_)
    · obtain ⟨n, t, rfl⟩ := hf v hv
      exact .now
    · have hy : ys.length = vs.length := by rw [← hK.len, hl]
      have hKa := hK.len
      have run := kat_run (prog := prog) (w := w) (A := A) (E := E) (s := s) (κ := tuples' true) (Q := fun st' s' => s' = s ∧ failedOf st' = none ∧ ∃ p, arrOf st' = p.map (kas_item (ks.toArray.zip vs.toArray)) ∧ NhSH.Val vs.length p ∧ NhSH.Up (ltY ys) p vs.length)
        (G := fun p s' => s' = s ∧ NhSH.Val vs.length p ∧ NhSH.Up (ltY ys) p vs.length) hl (by omega) h64 (fun p st' s' _ g2 g3 g => ⟨g.1, g3, p, g2, g.2.1, g.2.2⟩) (NhSH.sort_wp (ordY ys vs.length) (fun i j C hi hj hC => ltG_tup _ _ _ _ _ (hK.at (by omega)) (hK.at (by omega)) hC) (by omega) fun p v u => ⟨rfl, v, u⟩)
      refine wpAny_bind (wpAny_mono run ?_ fun _ _ e => e)
      rintro ⟨⟨⟩, st'⟩ s' ⟨es, hf, p, har, v, u⟩
      subst es
      try dsimp only
      have hz : (arrOf st').size = vs.length := by
        have har' : arrOf st' = p.map (kas_item (ks.toArray.zip vs.toArray)) := har
        rw [har', Array.size_map, v.size]
      exact sk_tail hk ha hka h64 hl hz hf fun h' tk c h1 h3 => h h' tk _ c h1 (out_of hl hy har v u) h3
noncomputable def KeyCall (prog : Program) (w : World) (A : Around) (f : Value) (s : Shared) (v : Value) (y : Ky) : Prop := ∀ (h : Heap) (tk : Nat), Keep s.heap h →
  wpAny (model prog w) A (call f [v]) (fun r s' => ∃ h' tk', s' = { s with heap := h', toks := tk' } ∧ Keep h h' ∧ IsKy h' r y) (fun _ _ => False) { s with heap := h, toks := tk }
theorem sk_rest {f : Value} {s0 : Shared} (hs0 : Keep s0.heap s.heap) (hss : ∃ tk, s = { s0 with heap := s.heap, toks := tk }) (h0a : s0.heap.get? a = none) (h0k : s0.heap.get? kS = none) (hk : s.heap.get? kS = some (seqObj "list" #[] 0)) (ha : s.heap.get? a = some (seqObj "list" #[] e1)) (hka : kS ≠ a) (h64 : vs.length < 64) (hl : ys.length = vs.length)
    (turn : ∀ (i : Nat) (v : Value) (y : Ky), vs[i]? = some v → ys[i]? = some y → KeyCall prog w A f s0 v y)
    (h : ∀ h' tk out c, h'.get? a = some (seqObj "list" out c) → OutK ys vs out.toList → Keep s0.heap h' → P (.done (.ret .none)) { s0 with heap := h', toks := tk }) :
    wpAny (model prog w) A (ksk_rest a f false vs.toArray e1 (.ref kS)) P E s := by
  unfold ksk_rest
  refine wpAny_bind (wpAny_rule ?_)
  first
    | rw [List.forIn_toArray]
    | (rw [← Array.forIn_toList]; simp only [List.toList_toArray])
    | rw [← Array.forIn_toList]
  obtain ⟨tk0, es⟩ := hss
  refine wpAny_bind (ksk_fold (fun i s' => ∃ h' tk kL e, s' = { s0 with heap := h', toks := tk } ∧ Keep s0.heap h' ∧ h'.get? kS = some (seqObj "list" kL.toArray e) ∧ h'.get? a = some (seqObj "list" #[] e1) ∧ KA h' kL (ys.take i)) vs 0 s
    ⟨s.heap, tk0, [], 0, es, hs0, hk, ha, by simp [KA]⟩ ?step ?done)
  case step =>
    rintro j x s' hx ⟨h', tk, kL, e, rfl, F', N1, N2, hK⟩
    simp only [Nat.zero_add] at hK ⊢
    have hj : j < vs.length := (List.getElem?_eq_some_iff.mp hx).1
    obtain ⟨y, hyj⟩ : ∃ y, ys[j]? = some y := ⟨_, List.getElem?_eq_getElem (by omega)⟩
    have hz : kL.length ≤ vs.length := by
      have h1 := hK.len
      rw [List.length_take] at h1
      omega
    refine wpAny_bind (wpAny_attempt (wpAny_mono (turn j x y hx hyj h' tk F') (fun v s'' he => ?_) fun _ _ hF => hF.elim))
    obtain ⟨g, tk2, rfl, kg, hy⟩ := he
    try dsimp only
    have nk := kg _ _ N1
    have na := kg _ _ N2
    have s1 := Heap.SameBut.update g kS (Obj.mapSeq (·.push v))
    obtain ⟨c2, hc2⟩ : ∃ c2, (g.update kS (Obj.mapSeq (·.push v))).get? kS = some (seqObj "list" (kL.toArray.push v) c2) := ⟨_, get?_update_seq nk (·.push v)⟩
    have ek : ys.take (j + 1) = ys.take j ++ [y] := by rw [List.take_add_one, hyj]; simp
    have ea : kL.toArray.push v = (kL ++ [v]).toArray := by simp
    have ng : ∀ {ks' : List Value} {ys' : List Ky}, KA g ks' ys' → KA (g.update kS (Obj.mapSeq (·.push v))) ks' ys' := fun {ks'} {ys'} q => by
      induction ks' generalizing ys' with
      | nil => cases ys' with
        | nil => trivial
        | cons _ _ => exact q.elim
      | cons k ks' ih => cases ys' with
        | nil => exact q.elim
        | cons y' ys' =>
          refine ⟨?_, ih q.2⟩
          obtain ⟨c, o, xs, n, t, z, u, ec, ho, hcl, r⟩ := q.1
          refine ⟨c, o, xs, n, t, z, u, ec, (s1.2 c ?_).trans ho, hcl, r⟩
          intro e3
          subst e3
          rw [nk] at ho
          cases ho
          have e4 : Value.type "list" = Value.type "tuple" := hcl
          injection e4 with e5
          exact absurd e5 (by decide)
    refine wpAny_bind (listUpdate_at nk rfl ?_ (by rw [List.size_toArray, sizeLine_eq]; omega) (Nat.le_trans (Nat.le_of_eq (Array.size_push ..)) (by rw [List.size_toArray, sizeLine_eq]; omega)))
    refine wpAny_pure ⟨rfl, _, _, kL ++ [v], c2, rfl, fun b o q => ?_, by rw [← ea]; exact hc2, (s1.2 a hka.symm).trans na, by rw [ek]; exact ng (KA.snoc hy (hK.keep kg))⟩
    refine (s1.2 b fun e3 => ?_).trans (kg _ _ (F' _ _ q))
    subst e3
    rw [h0k] at q
    cases q
  case done =>
    rintro s' ⟨h', tk, kL, e, rfl, F', N1, N2, hK⟩
    have e3 : ys.take (0 + vs.length) = ys := List.take_of_length_le (by omega)
    rw [e3] at hK
    try dsimp only
    refine wpAny_bind (listItems_at N1 rfl ?_)
    refine sk_end (s := { s0 with heap := h', toks := tk }) hK N1 N2 hka h64 (by rw [hK.len, hl]) fun h3 tk3 out c g1 g2 g3 => h h3 tk3 out c g1 g2 fun b o q => g3 b o ?_ ?_ (F' b o q)
    · intro z; subst z; rw [h0a] at q; cases q
    · intro z; subst z; rw [h0k] at q; cases q
theorem sk_tree {f : Value} {n : Nat} {s0 : Shared} (hs0 : Keep s0.heap s.heap) (hss : ∃ tk, s = { s0 with heap := s.heap, toks := tk }) (h0a : s0.heap.get? a = none) (hle : s0.heap.objs.size ≤ s.heap.objs.size) (ho : s.heap.get? a = some (seqObj "list" vs.toArray n)) (h64 : vs.length < 64) (hl : ys.length = vs.length)
    (turn : ∀ (i : Nat) (v : Value) (y : Ky), vs[i]? = some v → ys[i]? = some y → KeyCall prog w A f s0 v y)
    (h : ∀ h' tk out c, h'.get? a = some (seqObj "list" out c) → OutK ys vs out.toList → Keep s0.heap h' → P (.done (.ret .none)) { s0 with heap := h', toks := tk }) :
    wpAny (model prog w) A (ksk_tree a f false) P E s := by
  have ha : a < s.heap.objs.size := Heap.lt_size ho
  have s1 := Heap.SameBut.update s.heap a (Obj.mapSeq fun _ => (#[] : Array Value))
  obtain ⟨e1, ho1⟩ : ∃ e1, (s.heap.update a (Obj.mapSeq fun _ => (#[] : Array Value))).get? a = some (seqObj "list" #[] e1) := ⟨_, get?_update_seq ho fun _ => #[]⟩
  have hkS : ((s.heap.update a (Obj.mapSeq fun _ => (#[] : Array Value))).push (seqObj "tuple" vs.toArray 0)).objs.size = s.heap.objs.size + 1 := by rw [size_push', Heap.size_update]
  obtain ⟨tk0, es⟩ := hss
  unfold ksk_tree
  refine wpAny_bind (listItems_at ho rfl ?_)
  refine wpAny_bind (listUpdate_at ho rfl ?_ (by rw [List.size_toArray, sizeLine_eq]; omega) (Nat.zero_le _))
  refine wpAny_bind (seqEpoch_at ho1 rfl ?_)
  refine wpAny_bind (wpAny_newTuple ?_ (by show vs.length ≤ _; rw [sizeLine_eq]; omega))
  refine wpAny_bind (wpAny_newList ?_ (Nat.zero_le _))
  refine wpAny_holding ?_
  refine sk_rest (s := { s with heap := ((s.heap.update a (Obj.mapSeq fun _ => (#[] : Array Value))).push (seqObj "tuple" vs.toArray 0)).push (seqObj "list" #[] 0) }) (kS := ((s.heap.update a (Obj.mapSeq fun _ => (#[] : Array Value))).push (seqObj "tuple" vs.toArray 0)).objs.size) (s0 := s0)
    (fun b o q => ?_) ⟨tk0, by rw [es]⟩ h0a (Heap.get?_none_of_le (by rw [hkS]; omega)) (Heap.get?_push_size _ rfl) (Heap.get?_push_of_some _ (Heap.get?_push_of_some _ ho1)) (by rw [hkS]; exact Nat.ne_of_gt (Nat.lt_succ_of_lt ha)) h64 hl turn h
  refine Heap.get?_push_of_some _ (Heap.get?_push_of_some _ ((s1.2 b fun z => ?_).trans (hs0 b o q)))
  subst z
  rw [h0a] at q
  cases q
end
end NhSG
namespace NhSG
set_option autoImplicit false
open PySem PyProof PyProof.Rows PySem.W
section
variable {prog : Program} {w : World} {A : Around} {E : Value → Shared → Prop} {s : Shared} {l q : Addr} {vs : List Value} {ys : List Ky} {Q : Value → Shared → Prop}
theorem sorted_key (hl : s.heap.IsList l vs.toArray) (hlen : ys.length = vs.length) (h64 : vs.length < 64)
    (turn : ∀ (i : Nat) (v : Value) (y : Ky), vs[i]? = some v → ys[i]? = some y → KeyCall prog w A.in1.in1 (.ref q) s v y)
    (h : ∀ D h' tk out c, h'.get? D = some (seqObj "list" out c) → s.heap.objs.size ≤ D → OutK ys vs out.toList → Keep s.heap h' → Q (.ref D) { s with heap := h', toks := tk }) :
    wpAny (model prog w) A (call (.builtin "sorted") [.ref l] [(Str.ofString "key", .ref q)]) Q E s := by
  refine call_function_entry_kw kind_sorted plain_sorted entry_sorted (ksk_s1 _ _) ?_
  unfold Builtin.«sorted»
  refine wpAny_bind (m := checkCount "sorted" 1 1 _) (wpAny_pure ?_)
  refine wpAny_bind (collect_list hl ?_ (by rw [sizeLine_eq]; omega))
  refine wpAny_bind (wpAny_newList ?_ (by rw [sizeLine_eq]; omega))
  have hsz : ((s.heap.push (seqObj "list" #[] 0)).update s.heap.objs.size (Obj.mapSeq (· ++ vs.toArray))).objs.size = s.heap.objs.size + 1 := by
    rw [Heap.size_update, size_push']
  have hoL : (((s.heap.push (seqObj "list" #[] 0)).update s.heap.objs.size (Obj.mapSeq (· ++ vs.toArray))).push (seqObj "list" vs.toArray 0)).get? (s.heap.objs.size + 1) = some (seqObj "list" vs.toArray 0) := by
    rw [← hsz]; exact Heap.get?_push_size _ rfl
  have keep : Keep s.heap (((s.heap.push (seqObj "list" #[] 0)).update s.heap.objs.size (Obj.mapSeq (· ++ vs.toArray))).push (seqObj "list" vs.toArray 0)) := fun b o q => by
    have hlt : b < s.heap.objs.size := Heap.lt_size q
    rw [Heap.get?_push_ne _ _ _ (by rw [hsz]; exact Nat.ne_of_lt (Nat.lt_succ_of_lt hlt)), Heap.get?_update_ne _ _ _ _ (Nat.ne_of_lt hlt), Heap.get?_push_ne _ _ _ (Nat.ne_of_lt hlt)]
    exact q
  show wpAny _ _ _ _ _ { s with heap := ((s.heap.push (seqObj "list" #[] 0)).update s.heap.objs.size (Obj.mapSeq (· ++ vs.toArray))).push (seqObj "list" vs.toArray 0) }
  rw [hsz]
  have h0 : s.heap.get? (s.heap.objs.size + 1) = none := Heap.get?_none_of_le (Nat.le_succ _)
  refine wpAny_bind (wpAny_holding (wpAny_call_entry_kw slot_list_sort ⟨_, hoL, rfl⟩ entry_list_sort ?body (ksk_l1 _ _)))
  case body =>
    show wpAny (model prog w) A.in1.in1 (Builtin.«list.sort» ⟨[.ref (s.heap.objs.size + 1)], [(Str.ofString "key", .ref q)]⟩) _ _ _
    rw [ksk_t1]
    refine sk_tree (s := { s with heap := ((s.heap.push (seqObj "list" #[] 0)).update s.heap.objs.size (Obj.mapSeq (· ++ vs.toArray))).push (seqObj "list" vs.toArray 0) }) (s0 := s) keep ⟨s.toks, rfl⟩ h0 (by rw [size_push', hsz]; omega) hoL h64 hlen turn fun h' tk out c g1 g2 g3 => ⟨_, rfl, ?_⟩
    exact wpAny_pure ⟨_, rfl, h _ h' tk out c g1 (Nat.le_succ _) g2 g3⟩
end
end NhSG
namespace NhSG
set_option autoImplicit false
open PySem
noncomputable def keyS (z : Str) : Ky := (z.length, z.cps.toList)
noncomputable def leK (a b : Str) : Bool := !ltKy (keyS b) (keyS a)
noncomputable def sortK (ws : List Str) : List Str := ws.mergeSort leK
noncomputable def txt : Value → Option Str
  | .str z _ => some z
  | _ => none
theorem keyS_inj {a b : Str} (h : keyS a = keyS b) : a = b := by
  have e : a.cps.toList = b.cps.toList := congrArg Prod.snd h
  cases a; cases b
  congr
  exact Array.toList_inj.mp e
theorem leK_trans (a b c : Str) (h1 : leK a b = true) (h2 : leK b c = true) : leK a c = true := by
  unfold leK at *
  simp only [Bool.not_eq_true'] at *
  exact (PyProof.Rows.KeyOrd.kle_trans (O := (tupKind default).toKeyOrd) h1 h2)
theorem leK_total (a b : Str) : (leK a b || leK b a) = true := by
  unfold leK
  by_cases h : ltKy (keyS b) (keyS a) = true
  · have : ltKy (keyS a) (keyS b) = false := PyProof.Rows.KeyOrd.klt_asymm (O := (tupKind default).toKeyOrd) h
    simp [this]
  · simp [Bool.not_eq_true _ ▸ h]
theorem leK_anti {a b : Str} (h1 : leK a b = true) (h2 : leK b a = true) : a = b := by
  unfold leK at *
  simp only [Bool.not_eq_true'] at *
  exact keyS_inj ((tupKind default).total _ _ h2 h1)
theorem sort_uniq {qs ws : List Str} (hp : qs.Perm ws) (hs : qs.Pairwise fun a b => leK a b = true) : qs = sortK ws := by
  have h1 : (sortK ws).Pairwise fun a b => leK a b = true := List.pairwise_mergeSort leK_trans leK_total ws
  have h2 : qs.Perm (sortK ws) := hp.trans (List.mergeSort_perm ws leK).symm
  exact h2.eq_of_pairwise (fun a b _ _ x y => leK_anti x y) hs h1
theorem out_texts {ws : List Str} {vs out : List Value} (hv : vs.map txt = ws.map some) (h : OutK (ws.map keyS) vs out) : out.map txt = (sortK ws).map some := by
  obtain ⟨ps, hp, hs, rfl⟩ := h
  have key : ∀ (ws : List Str) (vs : List Value), vs.map txt = ws.map some → ∀ p ∈ (ws.map keyS).zip vs, ∃ z, p.1 = keyS z ∧ txt p.2 = some z := fun ws => by
    induction ws with
    | nil => intro vs _ p hp; simp at hp
    | cons w ws ih =>
      intro vs hv p hp
      cases vs with
      | nil => simp at hp
      | cons v vs =>
        simp only [List.map_cons, List.cons.injEq] at hv
        rw [List.map_cons, List.zip_cons_cons] at hp
        rcases List.mem_cons.mp hp with rfl | hp
        · exact ⟨w, rfl, hv.1⟩
        · exact ih vs hv.2 p hp
  have zm : ∀ (ws : List Str) (vs : List Value), vs.map txt = ws.map some → ((ws.map keyS).zip vs).map (fun p => txt p.2) = ws.map some := fun ws => by
    induction ws with
    | nil => intro vs _; simp
    | cons w ws ih =>
      intro vs hv
      cases vs with
      | nil => simp at hv
      | cons v vs =>
        simp only [List.map_cons, List.cons.injEq] at hv
        simp only [List.map_cons, List.zip_cons_cons, hv.1, ih vs hv.2]
  have ex : ∀ ps : List (Ky × Value), (∀ p ∈ ps, ∃ z, p.1 = keyS z ∧ txt p.2 = some z) → ∃ qs : List Str, ps.map (·.1) = qs.map keyS ∧ ps.map (fun p => txt p.2) = qs.map some := fun ps => by
    induction ps with
    | nil => intro _; exact ⟨[], rfl, rfl⟩
    | cons p ps ih =>
      intro h
      obtain ⟨z, h1, h2⟩ := h p (List.mem_cons_self ..)
      obtain ⟨qs, e1, e2⟩ := ih fun q hq => h q (List.mem_cons_of_mem _ hq)
      exact ⟨z :: qs, by simp [h1, e1], by simp [h2, e2]⟩
  obtain ⟨qs, e1, e2⟩ := ex ps fun p hp' => key ws vs hv p (hp.mem_iff.mp hp')
  have perm : qs.Perm ws := by
    have h1 := hp.map (fun p => txt p.2)
    rw [e2, zm ws vs hv] at h1
    have h2 := h1.filterMap id
    simpa using h2
  have srt : qs.Pairwise fun a b => leK a b = true := by
    have h1 : (ps.map (·.1)).Pairwise fun a b => ltKy b a = false := List.pairwise_map.mpr hs
    rw [e1, List.pairwise_map] at h1
    exact h1.imp fun h => by unfold leK; simp [h]
  rw [List.map_map]
  show ps.map (fun p => txt p.2) = _
  rw [e2, sort_uniq perm srt]
end NhSG
namespace NhSG
open PySem PySem.Spec PySem.Calls PyProof PyProof.Rows PySem.W
section
variable {prog : Program} {w : World} {A : Around} {E : Value → Shared → Prop} {s : Shared} {Q : Value → Shared → Prop}
theorem key_body {env : Env} {x z : Str} {t : Tok} {m mg mb : Str → Option Value} {p1 p2 p3 p4 pos : Pos} {x1} (hk : env.scope.kind = .function) (hx : env.kindOf x = some .local) (hl : env.kindOf "len" = some .globalImplicit)
    (hn : s.heap.Ns env.locals m) (hm : m x = some (.str z t)) (hg : s.heap.Ns env.globals mg) (hlg : mg "len" = none) (hb : s.heap.Ns env.builtins mb) (hlb : mb "len" = some (.builtin "len")) (hz : z.length ≤ sizeLine)
    (h : ∀ h' tk r, Keep s.heap h' → IsKy h' r (keyS z) → Q r { s with heap := h', toks := tk })
    (hd : (x == ("__debug__" : Str)) = false := by decide) (h1 : starEach [Expr.Call (.Name "len" p1) [.Name x p2] [] p3, .Name x p4] env = (false, eval (.Call (.Name "len" p1) [.Name x p2] [] p3) env) :: starEach [Expr.Name x p4] env := by rfl)
    (h2 : starEach [Expr.Name x p4] env = [(false, eval (.Name x p4) env)] := by rfl) (h3 : starEach [Expr.Name x p2] env = (false, eval (.Name x p2) env) :: starEach [] env := by rfl) :
    wpAny (model prog w) A (eval (.Tuple [.Call (.Name "len" p1) [.Name x p2] [] p3, .Name x p4] x1 pos) env) Q E s := by
  refine wpAny_Tuple_spliced ?_
  rw [h1, h2]
  show wpAny _ _ (spliced ((false, eval (.Call (.Name "len" p1) [.Name x p2] [] p3) env) :: backTo pos [(false, eval (.Name x p4) env)])) _ _ s
  refine Calls.spliced_cons ?_
  refine wpAny_Call_Name_kw (Calls.Name_function_global hk hl (Calls.loadGlobal_builtin hg hlg hb hlb ?_) (by decide))
  refine PyProof.Rows.callWith_builtin1 ?_ h3 rfl
  rw [h3]
  show wpAny _ _ (spliced ((false, eval (.Name x p2) env) :: backTo p3 (starEach [] env))) _ _ s
  refine Calls.spliced_cons (wpAny_Name (wpAny_loadName_local hk hx hn hm ?_) hd)
  show wpAny _ _ (spliced []) _ _ s
  refine Calls.spliced_nil ?_
  refine len_str (by have := hz; rw [sizeLine_eq] at this; omega) ?_
  show wpAny _ _ (spliced [(false, standAt pos >>= fun _ => eval (.Name x p4) env)]) _ _ _
  refine Calls.spliced_cons (wpAny_bind (wpAny_standAt (wpAny_Name (wpAny_loadName_local hk hx hn hm ?_) hd)))
  refine Calls.spliced_nil ⟨by rw [sizeLine_eq]; simp, ?_⟩
  exact h _ _ _ (fun b o e => Heap.get?_push_of_some _ e) ⟨_, _, _, _, _, z, t, rfl, Heap.get?_push_size _ rfl, rfl, rfl, rfl, rfl⟩
structure KMod (h : Heap) : Prop where
  g : ∃ mg, h.Ns mainGlobals mg ∧ mg "len" = none
  b : ∃ mb, h.Ns builtinsNs mb ∧ mb "len" = some (.builtin "len")
  lim : h.NoLimit
theorem KMod.keeps {h h' : Heap} (a : KMod h) (k : Keep h h') : KMod h' :=
  ⟨let ⟨mg, e, r⟩ := a.g; ⟨mg, e.keeps k, r⟩, let ⟨mb, e, r⟩ := a.b; ⟨mb, e.keeps k, r⟩, a.lim.keeps k⟩
theorem lam_call {f c' : Addr} {name qual x z : Str} {t : Tok} {params : Arguments} {scope : Scope} {pm ctv : Value} {p1 p2 p3 p4 pos : Pos} {x1} (M : KMod s.heap) (hroom : A.depth < recursionLimit)
    (ho : s.heap.get? f = some (kla_obj name qual params (.Tuple [.Call (.Name "len" p1) [.Name x p2] [] p3, .Name x p4] x1 pos) scope [] pm c' ctv)) (hcd : s.heap.CodeRec (.ref c') qual) (hz : z.length ≤ sizeLine)
    (hbind : bindArgs (kla_fn name qual params (.Tuple [.Call (.Name "len" p1) [.Name x p2] [] p3, .Name x p4] x1 pos) scope [] pm (.ref c') ctv) ⟨[.str z t], []⟩ = pure [(x, .str z t)])
    (hx : scope.names.lookup x = some .local) (hlen : scope.names.lookup (Str.ofString "len") = some .globalImplicit) (hco : scope.isCoroutine = false) (hgen : scope.isGenerator = false) (hk : scope.kind = .function) (hcell : ∀ x ∈ scope.names, x.2 ≠ .cell)
    (hd : (x == ("__debug__" : Str)) = false) : KeyCall prog w A (.ref f) s (.str z t) (keyS z) := by
  intro h tk kp
  refine wpAny_call (kla_callFunE hroom (kp _ _ ho) rfl hco hgen rfl (hcd.keeps kp) ?_)
  rw [hbind]
  refine wpAny_pure (wpAny_newFunctionEnv hcell (fun y hy => ?_) (fun h₁ hns hsb => ⟨((M.keeps kp).lim).fresh _ hsb, ?_⟩) hk)
  · rw [List.mem_singleton.mp hy]; exact hx
  have hk₁ : Keep h h₁ := fun b o e => hsb.extBut b o (Nat.ne_of_lt (Heap.lt_size e)) (Heap.get?_push_of_some _ e)
  have M1 := (M.keeps kp).keeps hk₁
  obtain ⟨mg, g1, g2⟩ := M1.g
  obtain ⟨mb, b1, b2⟩ := M1.b
  refine kla_codeExpr (key_body (t := t) (z := z) (m := fun y => List.lookup y [(x, Value.str z t)].reverse) hk hx hlen hns ?_ g1 g2 b1 b2 hz (fun h' tk' r k1 k2 => ?_) hd)
  · simp
  · exact ⟨h', tk', rfl, hk₁.trans k1, k2⟩
theorem def_call {f : Addr} {o : Obj} {fd : FuncData} {x z : Str} {t : Tok} {p1 p2 p3 p4 pos rp : Pos} {x1} (M : KMod s.heap) (hroom : A.depth < recursionLimit)
    (ho : s.heap.get? f = some o) (hfd : o.data = .func fd) (hbody : fd.body = .stmts [.Return (some (.Tuple [.Call (.Name "len" p1) [.Name x p2] [] p3, .Name x p4] x1 pos)) rp]) (hcd : s.heap.CodeRec fd.code fd.qualname) (hz : z.length ≤ sizeLine)
    (hbind : ∀ (h : Heap) (tk : Nat), Keep s.heap h → BindsTo { s with heap := h, toks := tk } fd ⟨[.str z t], []⟩ [(x, .str z t)]) (hgl : fd.globals = mainGlobals) (hbl : fd.builtins = builtinsNs)
    (hx : fd.scope.names.lookup x = some .local) (hlen : fd.scope.names.lookup (Str.ofString "len") = some .globalImplicit) (hco : fd.scope.isCoroutine = false) (hgen : fd.scope.isGenerator = false) (hk : fd.scope.kind = .function) (hcell : ∀ x ∈ fd.scope.names, x.2 ≠ .cell)
    (hd : (x == ("__debug__" : Str)) = false) : KeyCall prog w A (.ref f) s (.str z t) (keyS z) := by
  intro h tk kp
  refine wpAny_call (codeAny_call_function hroom (kp _ _ ho) hfd hco hgen hbody (hcd.keeps kp) ?_)
  refine hbind h tk kp _ _ _ _ (wpAny_newFunctionEnv hcell (fun y hy => ?_) (fun h₁ hns hsb => ⟨((M.keeps kp).lim).fresh _ hsb, ?_⟩) hk)
  · rw [List.mem_singleton.mp hy]; exact hx
  have hk₁ : Keep h h₁ := fun b o e => hsb.extBut b o (Nat.ne_of_lt (Heap.lt_size e)) (Heap.get?_push_of_some _ e)
  have M1 := (M.keeps kp).keeps hk₁
  obtain ⟨mg, g1, g2⟩ := M1.g
  obtain ⟨mb, b1, b2⟩ := M1.b
  rw [← hgl] at g1
  rw [← hbl] at b1
  refine codeAny_func (wpAny_execs_cons (wpAny_Return_some (key_body (t := t) (z := z) (m := fun y => List.lookup y [(x, Value.str z t)].reverse) hk hx hlen hns ?_ g1 g2 b1 b2 hz (fun h' tk' r k1 k2 => ?_) hd)))
  · simp
  · exact ⟨h', tk', rfl, hk₁.trans k1, k2⟩
end
end NhSG
namespace PL
open PySem L2 Nh
noncomputable def pSortK (f : PEv) : PEv := fun E => (f E).bind fun a => match look a.2 a.1 with
  | some (.list ds) => (strsL ds).bind fun ss => if (decide (ss.length < 64) && ss.all fun z => decide (z.length ≤ 1000)) = true then some (.ow ((NhSG.sortK ss).map .str), a.2) else none
  | _ => none
theorem txt_vals : ∀ {ws : List Str} {vs : List Value}, Vals (ws.map V.str) vs → vs.map NhSG.txt = ws.map some
  | [], _, .nil => rfl
  | w :: ws, _, .cons r t => by
    obtain ⟨u, rfl⟩ := r
    simp only [List.map_cons, txt_vals t]
    rfl
theorem vals_txt : ∀ {ws : List Str} {vs : List Value}, vs.map NhSG.txt = ws.map some → Vals (ws.map V.str) vs
  | [], [], _ => .nil
  | [], _ :: _, h => by simp at h
  | _ :: _, [], h => by simp at h
  | w :: ws, v :: vs, h => by
    simp only [List.map_cons, List.cons.injEq] at h
    refine .cons ?_ (vals_txt h.2)
    have h1 := h.1
    unfold NhSG.txt at h1
    split at h1
    · cases h1; exact ⟨_, rfl⟩
    · cases h1
section
variable {X : Cx} {pins : List (Addr × Obj)} {σ : L2.St} {H : Hp} {s : Shared}
theorem kmod (I : Inv X pins σ H s) (hl : X.mg "len" = none) : NhSG.KMod s.heap :=
  ⟨⟨X.mg, I.mod.glob.keeps I.bk, hl⟩, let ⟨mb, h1, h2⟩ := I.mod.blt; ⟨mb, h1.keeps I.bk, (h2 _ (by decide)).trans rfl⟩, I.nolimit⟩
theorem sortK_fin {l q : Addr} {ss : List Str} {Q : VK} (I : Inv X pins σ H s) (hq : SqL X.K H l (ss.map V.str)) (h64 : ss.length < 64)
    (turn : ∀ z t, z ∈ ss → NhSG.KeyCall X.prog X.w X.A.in1.in1 (.ref q) s (.str z t) (NhSG.keyS z))
    (h : ∀ D, H D = none → Q (.ref D) (upd H D (.lst ((NhSG.sortK ss).map V.str)))) :
    wpAny (model X.prog X.w) X.A (call (.builtin "sorted") [.ref l] [(Str.ofString "key", .ref q)]) (EP X pins σ Q) X.xe s := by
  obtain ⟨its, rv, pl, hz⟩ := I.list hq
  have hv := txt_vals rv
  have hlen : its.length = ss.length := by have := congrArg List.length hv; simpa using this
  refine NhSG.sorted_key (ys := ss.map NhSG.keyS) pl.isList (by simp [hlen]) (by omega) (fun i v y hv' hy' => ?_) fun D h' tk out c g1 g2 g3 g4 => ?_
  · rw [List.getElem?_map] at hy'
    obtain ⟨z, hz1, rfl⟩ := Option.map_eq_some_iff.mp hy'
    have e : (its.map NhSG.txt)[i]? = (ss.map some)[i]? := by rw [hv]
    rw [List.getElem?_map, List.getElem?_map, hv', hz1] at e
    have e1 : NhSG.txt v = some z := by simpa using e
    unfold NhSG.txt at e1
    split at e1
    · cases e1; exact turn _ _ (List.mem_of_getElem? hz1)
    · cases e1
  · have ot := NhSG.out_texts hv g3
    refine ⟨.ref D, _, I.laid (t' := tk) g4 g2 (show ObjOk X.prog X.w _ _ _ (.lst ((NhSG.sortK ss).map V.str)) from ⟨?_, out.toList, c, vals_txt ot, by simpa using g1⟩), rfl, h D (I.hok.fresh g2)⟩
    rw [List.length_map]
    have : (NhSG.sortK ss).length = ss.length := (List.mergeSort_perm ss NhSG.leK).length_eq
    rw [this, sizeLine_eq]
    omega
end
theorem small_of {z : Str} (h : z.length ≤ 1000) : z.length ≤ sizeLine := by rw [sizeLine_eq]; omega
section
variable {X : Cx} {e : Expr} {m : Bool} {f : PEv} {p pos kp np : Pos} {x y : Str} {st : Stmt} {k : Nat} {p1 p2 p3 p4 tp rp : Pos} {x1 : Nat}
theorem xe_sortD (D : Def X.K X.mg x st [y]) (hr : Room k X.A) (hg : Gl X "sorted") (hm : X.mg "sorted" = none) (hl : X.mg "len" = none) (hgx : Gl X x) (ha : EX X e m f)
    (hb : defBody st = [.Return (some (.Tuple [.Call (.Name "len" p1) [.Name y p2] [] p3, .Name y p4] x1 tp)) rp] := by rfl)
    (sc1 : (defScope st).names.lookup y = some .local := by rfl) (sc2 : (defScope st).names.lookup (Str.ofString "len") = some .globalImplicit := by rfl) (sc3 : (defScope st).isCoroutine = false := by rfl) (sc4 : (defScope st).isGenerator = false := by rfl) (sc5 : (defScope st).kind = .function := by rfl)
    (sc6 : ∀ x ∈ (defScope st).names, x.2 ≠ .cell := by decide) (hdy : (y == ("__debug__" : Str)) = false := by decide) (hdx : (x == ("__debug__" : Str)) = false := by decide)
    (he : starEach [e] X.env = [(false, eval e X.env)] := by rfl)
    (he' : backTo pos (starEach [e] X.env) = (false, eval e X.env) :: backTo pos (starEach [] X.env) := by rfl) (hpl : (backTo pos (starEach [e] X.env)).any (·.1) = false := by rfl)
    (hall : (backToKw pos (keywordEach [⟨some "key", .Name x np, kp⟩] X.env)).all (·.1.isSome) = true := by rfl) (hkw : (backToKw pos (keywordEach [⟨some "key", .Name x np, kp⟩] X.env)).any (·.1.isNone) = false := by rfl)
    (hnm : (backToKw pos (keywordEach [⟨some "key", .Name x np, kp⟩] X.env)).filterMap (·.1) = [Str.ofString "key"] := by rfl) :
    EX X (.Call (.Name "sorted" p) [e] [⟨some "key", .Name x np, kp⟩] pos) m (pSortK f) := by
  intro pins s σ H Q I z
  obtain ⟨B, E, xs, Xs, res, E', fr, cl, e0, q⟩ := z
  obtain ⟨⟨r1, E1⟩, e1, e2⟩ := Option.bind_eq_some_iff.mp e0
  simp only at e2
  split at e2
  · rename_i ds ld
    obtain ⟨ss, en, e3⟩ := Option.bind_eq_some_iff.mp e2
    split at e3
    · rename_i hc
      cases e3
      simp only [Bool.and_eq_true, decide_eq_true_eq, List.all_eq_true] at hc
      refine wpAny_Call_Name_kw (ld_blt I hg hm PyProof.Rows.boot_sorted ?_ (by decide) (by decide))
      refine PyProof.Rows.callWith_kw (thn (pa_cons ha pa_nil he pos pins s σ H (fun vs H1 => ∃ p, vs = [.ref p] ∧ SqL X.K H1 p (ss.map V.str) ∧ ∀ D, H1 D = none → Q (.ref D) (upd H1 D (.lst ((NhSG.sortK ss).map V.str)))) I ⟨B, E, xs, Xs, r1, _, fr, cl, e1, fun v1 H1 ⟨F, A, fr1⟩ => ?_⟩) fun us s2 ⟨vs, H1, I1, r1, p0, ev, hq, q1⟩ => ?_) he' hpl hall hkw
      · obtain ⟨A', fr2⟩ := fr1.pop
        have r := (fr1.look0 ld).1
        cases r with
        | lst h1 h2 =>
          have := strs_rp h2 en
          subst this
          exact ⟨_, rfl, h1, fun D hD => q _ _ ⟨F, _, fr2.newl (strs_rpa _) hD⟩⟩
      · subst ev
        cases r1 with
        | cons r rr =>
          cases rr
          cases r
          obtain ⟨fa, fd, F, hmx, hbd⟩ := D.ex
          refine PyProof.Rows.kws_cons (ld_glob I1 hgx hmx (PyProof.Rows.kws_nil ?_) hdx)
          rw [hnm]
          refine sortK_fin I1 hq hc.1 (fun z t hz => ?_) q1
          obtain ⟨oc, od, kV, doc, pm, an, cdv, ct, osl, rfl, lk, hcd⟩ := F.ex
          exact NhSG.def_call (kmod I1 hl) (show X.A.depth < recursionLimit by have := hr.dp; omega) (I1.kIn _ _ lk) rfl (by show FuncBody.stmts (defBody st) = _; rw [hb]) (PySem.W.codeRec_of I1.kIn hcd) (small_of (hc.2 z hz))
            (fun h tk kpp => hbd { s2 with heap := h, toks := tk } [.str z t] (I1.kIn.keeps kpp) rfl) rfl rfl sc1 sc2 sc3 sc4 sc5 sc6 hdy
    · cases e3
  · cases e2
end
end PL
namespace PL
open PySem L2 Nh
theorem codeAmong_app {pos : Pos} {a b : Int} {c cv : Value} (l : List Value) (h : TriplesOk l) (e : codeAmong pos (l ++ [rawInt a, rawInt b, c]) = some cv) : codeAmong pos l = some cv ∨ cv = c := by
  fun_induction TriplesOk l with
  | case1 =>
    simp only [List.nil_append, codeAmong, rawInt] at e
    split at e
    · cases e; exact .inr rfl
    · cases e
  | case2 a' t b' u x rest ih =>
    simp only [List.cons_append, codeAmong] at e ⊢
    split at e
    · rename_i hc; rw [if_pos hc]; exact .inl e
    · rename_i hc; rw [if_neg hc]; exact ih h e
  | case3 l h1 h2 => exact h.elim
section
variable {X : Cx} {pins : List (Addr × Obj)} {σ : L2.St} {H : Hp} {s : Shared}
theorem inv_table {P c' : Addr} {q : Str} {ps : Array Value} {a b : Int} {h' : Heap} {tk : Nat} (I : Inv X pins σ H s) (hT : H P = some (.tbl q)) (hps : s.heap.get? P = some (PySem.W.tabObj ps))
    (hx : ∀ b o, b ≠ P → s.heap.get? b = some o → h'.get? b = some o) (hc : s.heap.objs.size ≤ c') (hr : h'.CodeRec (.ref c') q) (hP : h'.get? P = some (PySem.W.tabObj (ps ++ #[rawInt a, rawInt b, .ref c']))) :
    Inv X pins σ (upd H c' (.own P)) { s with heap := h', toks := tk } := by
  have hn : H c' = none := I.hok.fresh hc
  have neP : ∀ b, H b = none → b ≠ P := fun b n z => by subst z; rw [hT] at n; cases n
  obtain ⟨ps0, e0, t0, r0⟩ := I.hok P _ hT
  rw [hps] at e0
  cases e0
  refine I.un (h' := h') (t' := tk) ⟨fun b o e n _ _ => hx b o (neP b n) e, fun b o e n _ _ => ⟨o.slots, hx b o (neP b n) e⟩, fun b o e n _ => ?_, fun b o e _ => ?_, fun b xs e => ?_, fun b o u e => ?_, fun b z e => ?_⟩ fun d o e => ?_
  · rw [upd_ne (Nat.ne_of_lt (Nat.lt_of_lt_of_le (Heap.lt_size e) hc))]; exact n
  · by_cases hb : b = P
    · subst hb; exact ⟨_, hP⟩
    · exact ⟨o, hx b o hb e⟩
  · rw [upd_ne (ne_of_none e hn)]; exact e
  · rw [upd_ne (ne_of_none e hn)]; exact e
  · rw [upd_ne (ne_of_none e hn)]; exact e
  · by_cases hd : d = c'
    · subst hd
      rw [upd_same] at e
      cases e
      obtain ⟨c2, oc, _, _, hc2, hoc, _⟩ := hr
      cases hc2
      exact ⟨oc, hoc⟩
    · rw [upd_ne hd] at e
      by_cases hp : d = P
      · subst hp
        rw [hT] at e
        cases e
        refine ⟨_, hP, by simpa using TriplesOk_snoc a b (.ref c') _ t0, fun pos cv z => ?_⟩
        rcases codeAmong_app (a := a) (b := b) (c := .ref c') ps.toList t0 (by simpa using z) with z | z
        · obtain ⟨c, ec, ho, c2, oc, vs, tq, hc2, hoc, hr2⟩ := r0 pos cv z
          subst ec
          cases hc2
          refine ⟨c, rfl, by rw [upd_ne (ne_of_none ho hn)]; exact ho, c, oc, vs, tq, rfl, hx _ _ (fun z => ?_) hoc, hr2⟩
          subst z
          rw [hT] at ho
          cases ho
        · subst z
          exact ⟨c', rfl, upd_same, hr⟩
      · refine (I.hok d o e).stay (fun b u hb q => hx b u ?_ q) (fun b hb => by rw [upd_ne (ne_of_none hb hn)]; exact hb) fun b xs hb => by rw [upd_ne (ne_of_none hb hn)]; exact hb
        rcases hb with rfl | hb
        · exact hp
        · intro z
          subst z
          rw [hT] at hb
          cases hb
theorem bltAt {P : Addr} {ps : Array Value} (I : Inv X pins σ H s) (hps : s.heap.get? P = some (PySem.W.tabObj ps)) : mainGlobals ≠ P ∧ s.heap.BuiltinsAt X.mg P := by
  have hg := I.mod.glob.keeps I.bk
  obtain ⟨bm, ob, b1, b2, b3, b4, b5, b6⟩ := I.mod.bmain
  have b3' := I.bk _ _ b3
  refine ⟨fun q => ?_, bm, ob, b1, b2, fun q => ?_, fun q => ?_, b3', b4, b5, b6⟩
  · obtain ⟨o, es, ep, e, hd, _⟩ := hg
    rw [q, hps] at e; cases e; cases hd
  · obtain ⟨o, es, ep, e, hd, _⟩ := hg
    rw [q, e] at b3'; cases b3'; rw [hd] at b6; cases b6
  · rw [q, hps] at b3'; cases b3'; cases b4
end
section
variable {X : Cx} {e : Expr} {m : Bool} {f : PEv} {p pos kp lp : Pos} {y : Str} {k : Nat} {p1 p2 p3 p4 tp : Pos} {x1 : Nat} {params : Arguments} {scope : Scope} {c P : Addr}
theorem xe_sortL (hcode : X.env.code = .ref c) (hP : tabP X.K = some P) (hC : PySem.W.codeHdIn X.K c P = true) (hr : Room k X.A) (hg : Gl X "sorted") (hm : X.mg "sorted" = none) (hl : X.mg "len" = none) (ha : EX X e m f)
    (hq : X.env.qual ++ "<lambda>" = Str.ofString "in_told_order.<locals>.<lambda>") (hdef : defaultsOf params X.env = ([], []) := by rfl)
    (hbind : ∀ (name qual : Str) (pm cd ctv u : Value), bindArgs (PySem.W.kla_fn name qual params (.Tuple [.Call (.Name "len" p1) [.Name y p2] [] p3, .Name y p4] x1 tp) scope [] pm cd ctv) ⟨[u], []⟩ = pure [(y, u)] := by intros; rfl)
    (sc1 : scope.names.lookup y = some .local := by rfl) (sc2 : scope.names.lookup (Str.ofString "len") = some .globalImplicit := by rfl) (sc3 : scope.isCoroutine = false := by rfl) (sc4 : scope.isGenerator = false := by rfl) (sc5 : scope.kind = .function := by rfl)
    (sc6 : ∀ x ∈ scope.names, x.2 ≠ .cell := by decide) (sc7 : ∀ x ∈ scope.names, x.2 ≠ .free := by decide) (hdy : (y == ("__debug__" : Str)) = false := by decide)
    (he : starEach [e] X.env = [(false, eval e X.env)] := by rfl)
    (he' : backTo pos (starEach [e] X.env) = (false, eval e X.env) :: backTo pos (starEach [] X.env) := by rfl) (hpl : (backTo pos (starEach [e] X.env)).any (·.1) = false := by rfl)
    (hall : (backToKw pos (keywordEach [⟨some "key", .Lambda params (.Tuple [.Call (.Name "len" p1) [.Name y p2] [] p3, .Name y p4] x1 tp) scope lp, kp⟩] X.env)).all (·.1.isSome) = true := by rfl)
    (hkw : (backToKw pos (keywordEach [⟨some "key", .Lambda params (.Tuple [.Call (.Name "len" p1) [.Name y p2] [] p3, .Name y p4] x1 tp) scope lp, kp⟩] X.env)).any (·.1.isNone) = false := by rfl)
    (hnm : (backToKw pos (keywordEach [⟨some "key", .Lambda params (.Tuple [.Call (.Name "len" p1) [.Name y p2] [] p3, .Name y p4] x1 tp) scope lp, kp⟩] X.env)).filterMap (·.1) = [Str.ofString "key"] := by rfl) :
    EX X (.Call (.Name "sorted" p) [e] [⟨some "key", .Lambda params (.Tuple [.Call (.Name "len" p1) [.Name y p2] [] p3, .Name y p4] x1 tp) scope lp, kp⟩] pos) m (pSortK f) := by
  intro pins s σ H Q I z
  obtain ⟨B, E, xs, Xs, res, E', fr, cl, e0, q⟩ := z
  obtain ⟨⟨r1, E1⟩, e1, e2⟩ := Option.bind_eq_some_iff.mp e0
  simp only at e2
  split at e2
  · rename_i ds ld
    obtain ⟨ss, en, e3⟩ := Option.bind_eq_some_iff.mp e2
    split at e3
    · rename_i hc
      cases e3
      simp only [Bool.and_eq_true, decide_eq_true_eq, List.all_eq_true] at hc
      refine wpAny_Call_Name_kw (ld_blt I hg hm PyProof.Rows.boot_sorted ?_ (by decide) (by decide))
      refine PyProof.Rows.callWith_kw (thn (pa_cons ha pa_nil he pos pins s σ H (fun vs H1 => ∃ p, vs = [.ref p] ∧ SqL X.K H1 p (ss.map V.str) ∧ ∀ H2, Same H1 H2 → ∀ D, H2 D = none → Q (.ref D) (upd H2 D (.lst ((NhSG.sortK ss).map V.str)))) I ⟨B, E, xs, Xs, r1, _, fr, cl, e1, fun v1 H1 ⟨F, A, fr1⟩ => ?_⟩) fun us s2 ⟨vs, H1, I1, r1, p0, ev, hq1, q1⟩ => ?_) he' hpl hall hkw
      · obtain ⟨A', fr2⟩ := fr1.pop
        have r := (fr1.look0 ld).1
        cases r with
        | lst h1 h2 =>
          have := strs_rp h2 en
          subst this
          exact ⟨_, rfl, h1, fun H2 g D hD => q _ _ ⟨_, _, (fr2.grow g).newl (strs_rpa _) hD⟩⟩
      · subst ev
        cases r1 with
        | cons r rr =>
          cases rr
          cases r
          refine PyProof.Rows.kws_cons (PySem.W.kla_eval hdef ?_)
          have hT : H1 P = some (.tbl (Str.ofString "in_told_order.<locals>.<lambda>")) := I1.tab P _ (by unfold tabQ; rw [if_pos hP])
          obtain ⟨ps, hps, ht, hit⟩ := I1.hok P _ hT
          obtain ⟨hgP, hbA⟩ := bltAt I1 hps
          have hcl : closureFor scope X.env = pure [] := closureFor_none sc7
          have C := PySem.W.codeHd_of_K I1.kIn hC
          have hroom : X.A.in1.in1.depth < recursionLimit := by have := hr.dp; show X.A.depth < recursionLimit; omega
          cases hca : codeAmong lp ps.toList with
          | none =>
            refine PySem.W.kla_makeFunction hcl I1.ok.glob (I1.mod.glob.keeps I1.bk) hcode C hps ht hca hgP hbA fun c' ctv h' tk hx hge hlt hrec htb => ?_
            rw [hq] at hrec
            have I2 := inv_table (tk := tk) I1 hT hps (fun b o hb e => hx b o hb e) hge hrec htb
            have g : Same H1 (upd H1 c' (.own P)) := same_new (I1.hok.fresh hge) _
            have I3 := I2.kept (t' := tk) (fun b o e => Heap.get?_push_of_some (PySem.W.kla_obj "<lambda>" (X.env.qual ++ "<lambda>") params (.Tuple [.Call (.Name "len" p1) [.Name y p2] [] p3, .Name y p4] x1 tp) scope [] ((X.mg "__name__").getD .none) c' ctv) e)
            refine PyProof.Rows.kws_nil ?_
            rw [hnm]
            refine sortK_fin I3 (g.seq hq1) hc.1 (fun z t hz => ?_) (q1 _ g)
            exact NhSG.lam_call (kmod I3 hl) hroom (Heap.get?_push_size _ rfl) (by rw [hq]; exact hrec.keeps fun b o e => Heap.get?_push_of_some _ e) (small_of (hc.2 z hz)) (hbind _ _ _ _ _ _) sc1 sc2 sc3 sc4 sc5 sc6 hdy
          | some cv =>
            obtain ⟨c', rfl, ho, hrec⟩ := hit lp cv hca
            refine PySem.W.kla_makeFunctionHit hcl I1.ok.glob (I1.mod.glob.keeps I1.bk) hcode C hps ht hca hbA fun ctv h' tk hx hsz => ?_
            have I3 := I1.kept (t' := tk) (fun b o e => Heap.get?_push_of_some (PySem.W.kla_obj "<lambda>" (X.env.qual ++ "<lambda>") params (.Tuple [.Call (.Name "len" p1) [.Name y p2] [] p3, .Name y p4] x1 tp) scope [] ((X.mg "__name__").getD .none) c' ctv) (hx b o e))
            refine PyProof.Rows.kws_nil ?_
            rw [hnm]
            refine sortK_fin I3 hq1 hc.1 (fun z t hz => ?_) (q1 _ (Same.refl _))
            exact NhSG.lam_call (kmod I3 hl) hroom (Heap.get?_push_size _ rfl) (by rw [hq]; exact hrec.keeps fun b o e => Heap.get?_push_of_some _ (hx b o e)) (small_of (hc.2 z hz)) (hbind _ _ _ _ _ _) sc1 sc2 sc3 sc4 sc5 sc6 hdy
    · cases e3
  · cases e2
end
structure DefT (K : PySem.W.Frag) (mg : Str → Option Value) (x : Str) (st : Stmt) (ps : List Str) (c P : Addr) : Prop where
  ex : ∃ (f : Addr) (oc : Value) (od : Option Addr) (kV doc pm : Value) (an : Option Addr) (ct : Value) (osl : Array (Option Value)),
    K.lookup f = some ⟨oc, od, .func (PySem.W.fnOf x x (defArgs st) (defBody st) (defScope st) .none kV doc pm an (.ref c) ct), osl⟩ ∧ PySem.W.codeIn K (.ref c) x = true ∧ PySem.W.keepIn K (.ref f) = true ∧ mg x = some (.ref f) ∧
      Binds K (PySem.W.fnOf x x (defArgs st) (defBody st) (defScope st) .none kV doc pm an (.ref c) ct) ps []
  hd : PySem.W.codeHdIn K c P = true
  tp : tabP K = some P
theorem ownT {P : Program} {w : World} {K : PySem.W.Frag} {mg : Str → Option Value} {base : Heap} {x : Str} {st : Stmt} {N ps : List Str} {k a n : Nat} {g : PSv} {c T : Addr} (D : DefT K mg x st ps c T) (S : FnScope N ps (defScope st)) (hpa : ps.length = a) (hNn : N.length = n) (hps : a ≤ n)
    (hbody : ∀ (f : Addr) (A : Around) (outer : List Env) (s : Shared) (H : Hp) (E : XK), Room k (A.deeper (PyProof.Rows.envOfC x (defScope st) s.heap.objs.size f (.ref c))) →
      SSX (cxOf CX0 P w K mg base N x (defScope st) f (.ref c) A outer s H E).nox (defBody st) g) : Own P w K mg base (k + 1) x ps (spP K (fnB a n g)) := by
  subst hpa hNn
  obtain ⟨f, oc, od, kV, doc, pm, an, ct, osl, lk, hcd, kp, hm, hb⟩ := D.ex
  refine ⟨f, _, fn_of lk hcd S (fun vs H Q E h => ?_) (fun A outer s H vs Q E hr h => ?_), hb, hm, kp⟩
  · obtain ⟨ds, r, e, rp, _⟩ := h
    unfold fnB at e
    split at e
    · rename_i hl
      rw [rp.len]; exact hl
    · cases e
  obtain ⟨ds, r, e, rp, q⟩ := h
  unfold fnB at e
  split at e
  · rename_i hl
    refine ⟨_, (hbody f A outer s H E hr).nox, ?_⟩
    obtain ⟨⟨E', fl⟩, e1, e⟩ := Option.bind_eq_some_iff.mp e
    refine ⟨H, startE N.length ds, [], [], E', fl, ⟨H, [], startFr rp (by omega)⟩, rfl, e1, ?_⟩
    cases fl with
    | nx =>
      cases e
      rintro σ' H' ⟨F', A', fr'⟩
      exact q _ _ (fr'.bf.trans fr'.fh) .non
    | bk => cases e
    | ct => cases e
    | rt r' =>
      rintro σ' v H' ⟨F', A', fr'⟩
      obtain ⟨s1, s2⟩ := fr'.resultO e
      exact q v H' s1 s2
  · cases e
theorem tab_mk {K : PySem.W.Frag} {f c P : Addr} {oc occ : Value} {od odc : Option Addr} {fd : FuncData} {sl slc : Array (Option Value)} {vs : Array Value} (a : PySem.W.nsIn K mainGlobals "in_told_order" = some (some (.ref f))) (l : K.lookup f = some ⟨oc, od, .func fd, sl⟩) (hc : fd.code = .ref c)
    (lc : K.lookup c = some ⟨occ, odc, .fields vs, slc⟩) (hv : (vs[11]? : Option Value) = some (.ref P)) : tabP K = some P := by
  unfold tabP
  rw [a]
  simp only [l, hc, lc, hv]
theorem tabAt_mk {K : PySem.W.Frag} {h : Heap} {f c P : Addr} {oc occ : Value} {od odc : Option Addr} {fd : FuncData} {sl slc : Array (Option Value)} {vs : Array Value} (X : K.In h) (a : PySem.W.nsIn K mainGlobals "in_told_order" = some (some (.ref f))) (l : K.lookup f = some ⟨oc, od, .func fd, sl⟩) (hc : fd.code = .ref c)
    (lc : K.lookup c = some ⟨occ, odc, .fields vs, slc⟩) (hv : (vs[11]? : Option Value) = some (.ref P)) (hd : PySem.W.codeHdIn K c P = true) (hn : K.lookup P = none) (ht : h.get? P = some (PySem.W.tabObj #[])) : TabAt K h := fun b q e => by
  have tp := tab_mk a l hc lc hv
  unfold tabQ at e
  split at e
  · rename_i hb
    rw [tp] at hb
    cases hb
    exact ⟨ht, ⟨c, PySem.W.codeHd_of_K X hd⟩, hn⟩
  · cases e
end PL
namespace PL
open PySem L2 Nh
section
variable {K : PySem.W.Frag} {B F : Hp} {A : List Addr} {σ : Sg} {H : Hp} {E : List Sl} {xs : List V} {Xs : List Sl} {v : V}
theorem FrF.popw {ds : List PyData} (h : FrF K B F A σ H E (v :: xs) (.ow ds :: Xs)) : ∃ l vs A', v = .ref l ∧ H l = some (.lst vs) ∧ RpA K F vs ds ∧ l ∉ A' ∧ F l = none ∧ FrF K B F A' σ H E xs Xs := by
  obtain ⟨bf, fh, tf, sl, nd, fr, len, pl⟩ := h
  generalize hT : List.map some (v :: xs) ++ σ = T at sl
  generalize hS : (Sl.ow ds :: Xs) ++ E = S at sl
  cases sl with
  | nil => cases hS
  | cons q r =>
    rename_i A1 _ _ A2
    injection hT with h1 hT
    injection hS with h2 hS
    subst h1 h2 hT hS
    obtain ⟨l, vs, el, rfl, hl, rv⟩ := q
    cases el
    have nd' := List.nodup_append.mp nd
    exact ⟨l, vs, A2, rfl, hl, rv, fun z => nd'.2.2 l (by simp) l z rfl, fr l (by simp), bf, fh, tf, r, nd'.2.1, fun a ha => fr a (List.mem_append_right _ ha), by simpa using len, pl⟩
theorem FrF.lost {l : Addr} {vs vs' : List V} (h : FrF K B F A σ H E xs Xs) (hl : H l = some (.lst vs)) (hA : l ∉ A) (hF : F l = none) (c : ∀ s ∈ Xs, s.isBr = false) : FrF K B F A σ (upd H l (.lst vs')) E xs Xs := by
  have nb : ∀ s ∈ Xs ++ E, s.isBr = true → False := fun s hs z => by
    rcases List.mem_append.mp hs with hs | hs
    · rw [c s hs] at z; cases z
    · have := h.pl s hs
      cases s <;> simp [Sl.isAl, Sl.isBr] at this z
  refine ⟨h.bf, fun b o e => ?_, ?_, h.sl.mono fun o s C hs hC q => q.stay (Same.refl _) (fun b hb => upd_ne fun z => hA (z ▸ hC b hb)) fun z => (nb s hs z).elim, h.nd, h.fr, h.len, h.pl⟩
  · rw [upd_ne (fun z => by rw [z, hF] at e; cases e)]
    exact h.fh _ _ e
  · rw [tups_upd hl]; exact h.tf
end
noncomputable def pAppT (f : PEv) (d : PyData) : PEv := fun E => (f E).bind fun a => match a.1 with
  | .ow ds => if ds.length < 1000000 then some (.sh .none, a.2) else none
  | _ => none
section
variable {X : Cx} {e : Expr} {m1 : Bool} {f : PEv} {z : Str} {j : Nat} {p apos cpos : Pos}
theorem xe_appT (he : EX X e m1 f) (hs : starEach [.Constant (.str z) j p] X.env = [(false, eval (.Constant (.str z) j p) X.env)] := by rfl) (hbase : attributeBase e "append" X.env (eval e X.env) = eval e X.env := by rfl)
    (hfew : ((backTo cpos (starEach [.Constant (.str z) j p] X.env)).all (fun x => !x.1) && (backToKw cpos (keywordEach [] X.env)).all (fun x => x.1.isSome)
      && decide (([.Constant (.str z) j p] : List Expr).length + ([] : List Keyword).length + (if ([] : List Keyword).isEmpty then 0 else 1) < 30)) = true := by rfl) (hline : (apos.endLine == cpos.line) = true := by rfl) :
    EX X (.Call (.Attribute e "append" apos) [.Constant (.str z) j p] [] cpos) true (pAppT f (.str z)) := by
  refine pe_imp (pe_bm PySem.F.plainAttrs_list PySem.F.slot_list_append PySem.F.type_list_append mt_append he (pa_cons pe_str pa_nil hs) hbase hfew hline hs rfl) fun σ H Q zz => ?_
  obtain ⟨B, E, xs, Xs, res, E', fr, cl, e0, q⟩ := zz
  obtain ⟨⟨s1, E1⟩, e1, e2⟩ := Option.bind_eq_some_iff.mp e0
  cases s1 with
  | ow ds =>
    simp only at e2
    split at e2
    · rename_i hl
      cases e2
      refine ⟨B, E, xs, Xs, .ow ds, _, fr, fun _ => cl rfl, e1, fun v1 H1 ⟨F, A, fr1⟩ => ?_⟩
      obtain ⟨l, vs, A', rfl, hl1, rv, nA, nF, fr2⟩ := fr1.popw
      have ll := rv.len
      refine ⟨.inl ⟨rfl, _, SqL.of hl1⟩, ?_⟩
      exact ⟨l, vs, .str z, rfl, rfl, hl1, small (by omega), q _ _ ⟨_, _, (fr2.lost hl1 nA nF (cl rfl)).push ⟨rfl, _, rfl, .non⟩⟩⟩
    · cases e2
  | _ => cases e2
end
end PL
namespace NH
noncomputable def bitsTo (w : List Nat) : Nat → Nat
  | 0 => 0
  | n + 1 => bitsTo w n + if 97 + n ∈ w then 2 ^ n else 0
theorem bitsTo_lt (w : List Nat) : ∀ n, bitsTo w n < 2 ^ n
  | 0 => by simp [bitsTo]
  | n + 1 => by
    have := bitsTo_lt w n
    rw [bitsTo, Nat.pow_succ]
    split <;> omega
theorem bitsTo_at (w : List Nat) : ∀ n i, (bitsTo w n).testBit i = (decide (i < n) && decide (97 + i ∈ w))
  | 0, i => by simp [bitsTo]
  | n + 1, i => by
    have ih := bitsTo_at w n i
    have lt := bitsTo_lt w n
    rw [bitsTo]
    by_cases h : 97 + n ∈ w
    · rw [if_pos h, Nat.add_comm]
      by_cases e : i = n
      · subst e
        rw [Nat.testBit_two_pow_add_eq, ih]
        simp [h]
      · by_cases l : i < n
        · rw [Nat.testBit_two_pow_add_gt l, ih]
          simp [l, show i < n + 1 by omega]
        · have big : 2 ^ n + bitsTo w n < 2 ^ i := by
            have : 2 ^ (n + 1) ≤ 2 ^ i := Nat.pow_le_pow_right (by decide) (by omega)
            rw [Nat.pow_succ] at this
            omega
          rw [Nat.testBit_lt_two_pow big]
          simp [show ¬ i < n + 1 by omega]
    · rw [if_neg h, Nat.add_zero, ih]
      by_cases e : i = n
      · subst e; simp [h]
      · by_cases l : i < n
        · simp [l, show i < n + 1 by omega]
        · simp [l, show ¬ i < n + 1 by omega]
noncomputable def bitsW (w : List Nat) : Nat := bitsTo w 26
noncomputable def Ltrs (w : List Nat) : Prop := ∀ a ∈ w, 97 ≤ a ∧ a < 97 + 26
theorem bits_part {a b : List Nat} (ha : Ltrs a) : bitsW a &&& bitsW b = bitsW a ↔ ∀ x ∈ a, x ∈ b := by
  unfold bitsW
  constructor
  · intro h x hx
    have l := ha x hx
    have := congrArg (fun n => n.testBit (x - 97)) h
    simp only [Nat.testBit_and, bitsTo_at, show 97 + (x - 97) = x by omega, show x - 97 < 26 by omega, hx] at this
    simpa using this
  · intro h
    refine Nat.eq_of_testBit_eq fun i => ?_
    rw [Nat.testBit_and, bitsTo_at, bitsTo_at]
    by_cases m : 97 + i ∈ a
    · simp [m, h _ m]
    · simp [m]
end NH
namespace NhFam
noncomputable abbrev Tx := List Nat
noncomputable def Srt (w : Tx) : Prop := w.Pairwise (· < ·)
noncomputable def le (v w : Tx) : Prop := ∀ x ∈ v, x ∈ w
noncomputable instance (v w : Tx) : Decidable (le v w) := inferInstanceAs (Decidable (∀ x ∈ v, x ∈ w))
theorem le.refl (v : Tx) : le v v := fun _ h => h
theorem le.trans {u v w : Tx} (a : le u v) (b : le v w) : le u w := fun x h => b x (a x h)
noncomputable def Sub (U w : Tx) : Prop := Srt w ∧ le w U
theorem Srt.nodup {w : Tx} (h : Srt w) : w.Nodup := h.imp fun h => Nat.ne_of_lt h
theorem sub_of_le : ∀ {w v : Tx}, Srt v → Srt w → le v w → v.Sublist w
  | [], v, _, _, h => by
    cases v with
    | nil => exact .slnil
    | cons x v => cases h x (List.mem_cons_self ..)
  | y :: w, v, hv, hw, h => by
    cases v with
    | nil => exact List.nil_sublist _
    | cons x v =>
      have hw' := List.pairwise_cons.mp hw
      have hv' := List.pairwise_cons.mp hv
      by_cases e : x = y
      · subst e
        refine (sub_of_le hv'.2 hw'.2 fun z hz => ?_).cons_cons _
        rcases List.mem_cons.mp (h z (List.mem_cons_of_mem _ hz)) with q | q
        · have := hv'.1 z hz; omega
        · exact q
      · have hx : x ∈ w := (List.mem_cons.mp (h x (List.mem_cons_self ..))).resolve_left e
        have lt := hw'.1 x hx
        refine (sub_of_le hv hw'.2 fun z hz => ?_).cons _
        rcases List.mem_cons.mp (h z hz) with q | q
        · subst q
          rcases List.mem_cons.mp hz with q | q
          · omega
          · have := hv'.1 z q; omega
        · exact q
theorem Srt.ext {v w : Tx} (hv : Srt v) (hw : Srt w) (a : le v w) (b : le w v) : v = w :=
  (sub_of_le hv hw a).eq_of_length (Nat.le_antisymm (sub_of_le hv hw a).length_le (sub_of_le hw hv b).length_le)
theorem lt_len {v w : Tx} (hv : Srt v) (hw : Srt w) (a : le v w) (n : v ≠ w) : v.length < w.length := by
  have s := sub_of_le hv hw a
  rcases Nat.lt_or_ge v.length w.length with h | h
  · exact h
  · exact absurd (s.eq_of_length (Nat.le_antisymm s.length_le h)) n
noncomputable def key (w : Tx) : NhSG.Ky := ((w.length : Int), w)
noncomputable def ltT (v w : Tx) : Prop := NhSG.ltKy (key v) (key w) = true
theorem ltT_of_len {v w : Tx} (h : v.length < w.length) : ltT v w := NhSG.ltKy_iff.mpr (.inl (by simp only [key]; omega))
theorem ltT_irrefl (v : Tx) : ¬ ltT v v := fun h => by
  have := (NhSG.tupKind default).irrefl (key v)
  unfold ltT at h
  rw [show NhSG.ltKy (key v) (key v) = false from this] at h
  cases h
theorem ltT_total {v w : Tx} (h1 : ¬ ltT v w) (h2 : ¬ ltT w v) : v = w := by
  have h := (NhSG.tupKind default).total (key v) (key w) (by simpa [ltT] using h1) (by simpa [ltT] using h2)
  exact congrArg Prod.snd h
theorem ltT_trans {u v w : Tx} (a : ltT u v) (b : ltT v w) : ltT u w := (NhSG.tupKind default).trans _ _ _ a b
theorem ltT_asymm {v w : Tx} (a : ltT v w) : ¬ ltT w v := fun b => ltT_irrefl v (ltT_trans a b)
noncomputable def up (F : List Tx) (w : Tx) : Prop := ∃ v ∈ F, le v w
noncomputable def Min (U : Tx) (f : Tx → Prop) (w : Tx) : Prop := Sub U w ∧ f w ∧ ∀ v, Sub U v → f v → le v w → v = w
structure Told (U : Tx) (L : List Tx) (f : Tx → Prop) : Prop where
  srt : L.Pairwise ltT
  mem : ∀ w, w ∈ L ↔ Min U f w
noncomputable def Mono (U : Tx) (f : Tx → Prop) : Prop := ∀ v w, Sub U v → Sub U w → le v w → f v → f w
theorem exists_min {U : Tx} {f : Tx → Prop} : ∀ (n : Nat) (w : Tx), w.length ≤ n → Sub U w → f w → ∃ v, Min U f v ∧ le v w
  | n, w, hn, hw, hf => by
    by_cases h : ∀ v, Sub U v → f v → le v w → v = w
    · exact ⟨w, ⟨hw, hf, h⟩, le.refl w⟩
    · obtain ⟨v, h⟩ := Classical.not_forall.mp h
      obtain ⟨v1, h⟩ := Classical.not_imp.mp h
      obtain ⟨v2, h⟩ := Classical.not_imp.mp h
      obtain ⟨v3, v4⟩ := Classical.not_imp.mp h
      have := lt_len v1.1 hw.1 v3 v4
      cases n with
      | zero => omega
      | succ n =>
        obtain ⟨u, a, b⟩ := exists_min n v (by omega) v1 v2
        exact ⟨u, a, b.trans v3⟩
theorem Told.sub {U : Tx} {L : List Tx} {f : Tx → Prop} (h : Told U L f) : ∀ w ∈ L, Sub U w := fun w hw => ((h.mem w).mp hw).1
theorem Told.up_iff {U : Tx} {L : List Tx} {f : Tx → Prop} (h : Told U L f) (m : Mono U f) {w : Tx} (hw : Sub U w) : up L w ↔ f w := by
  constructor
  · rintro ⟨v, hv, l⟩
    have := (h.mem v).mp hv
    exact m v w this.1 hw l this.2.1
  · intro hf
    obtain ⟨v, a, b⟩ := exists_min w.length w (Nat.le_refl _) hw hf
    exact ⟨v, (h.mem v).mpr a, b⟩
theorem Min.congr {U : Tx} {f g : Tx → Prop} (h : ∀ w, Sub U w → (f w ↔ g w)) {w : Tx} : Min U f w ↔ Min U g w := by
  constructor
  · rintro ⟨a, b, c⟩; exact ⟨a, (h w a).mp b, fun v v1 v2 v3 => c v v1 ((h v v1).mpr v2) v3⟩
  · rintro ⟨a, b, c⟩; exact ⟨a, (h w a).mpr b, fun v v1 v2 v3 => c v v1 ((h v v1).mp v2) v3⟩
theorem Told.congr {U : Tx} {L : List Tx} {f g : Tx → Prop} (a : Told U L f) (h : ∀ w, Sub U w → (f w ↔ g w)) : Told U L g := ⟨a.srt, fun w => (a.mem w).trans (Min.congr h)⟩
theorem srt_nodup {L : List Tx} (h : L.Pairwise ltT) : L.Nodup := h.imp fun {a b} h e => by subst e; exact ltT_irrefl a h
theorem srt_uniq {L L' : List Tx} (a : L.Pairwise ltT) (b : L'.Pairwise ltT) (h : ∀ w, w ∈ L ↔ w ∈ L') : L = L' :=
  ((List.perm_ext_iff_of_nodup (srt_nodup a) (srt_nodup b)).mpr h).eq_of_pairwise (fun x y _ _ p q => absurd q (ltT_asymm p)) a b
theorem Told.uniq {U : Tx} {L L' : List Tx} {f g : Tx → Prop} (a : Told U L f) (b : Told U L' g) (h : ∀ w, Sub U w → (f w ↔ g w)) : L = L' :=
  srt_uniq a.srt b.srt fun w => (a.mem w).trans ((Min.congr h).trans (b.mem w).symm)
theorem up_mono (U : Tx) (F : List Tx) : Mono U (up F) := fun v w _ _ l ⟨u, hu, h⟩ => ⟨u, hu, h.trans l⟩
theorem min_up {U : Tx} {F : List Tx} (hF : ∀ v ∈ F, Sub U v) {w : Tx} : Min U (up F) w ↔ w ∈ F ∧ ∀ v ∈ F, le v w → v = w := by
  constructor
  · rintro ⟨a, ⟨v, hv, l⟩, c⟩
    have e := c v (hF v hv) ⟨v, hv, le.refl v⟩ l
    subst e
    exact ⟨hv, fun u hu l => c u (hF u hu) ⟨u, hu, le.refl u⟩ l⟩
  · rintro ⟨a, b⟩
    refine ⟨hF w a, ⟨w, a, le.refl w⟩, fun v hv ⟨u, hu, l⟩ lv => ?_⟩
    have e := b u hu (l.trans lv)
    subst e
    exact hv.1.ext (hF u hu).1 lv l
noncomputable def stepL (K : List Tx) : List Tx → List Tx
  | [] => K
  | w :: r => if K.any (fun k => decide (le k w)) then stepL K r else stepL (K ++ [w]) r
theorem stepL_spec : ∀ (S K Pre : List Tx), (∀ v ∈ Pre ++ S, Srt v) → (∀ v ∈ Pre, ∃ k ∈ K, le k v) → (∀ k ∈ K, k ∈ Pre) → (∀ v ∈ Pre, ∀ w ∈ S, ¬ ltT w v) → S.Pairwise (fun a b => ¬ ltT b a) →
    (∀ k ∈ K, ∀ v ∈ Pre, le v k → v = k) → K.Pairwise ltT → (stepL K S).Pairwise ltT ∧ ∀ w, w ∈ stepL K S ↔ w ∈ Pre ++ S ∧ ∀ v ∈ Pre ++ S, le v w → v = w
  | [], K, Pre, hs, h1, h2, h3, h4, h5, h6 => by
    refine ⟨h6, fun w => ?_⟩
    simp only [stepL, List.append_nil]
    refine ⟨fun hw => ⟨h2 w hw, h5 w hw⟩, fun ⟨a, b⟩ => ?_⟩
    obtain ⟨k, hk, l⟩ := h1 w a
    rw [← b k (h2 k hk) l]
    exact hk
  | w :: S, K, Pre, hs, h1, h2, h3, h4, h5, h6 => by
    have e : Pre ++ w :: S = (Pre ++ [w]) ++ S := by simp
    have h4' := List.pairwise_cons.mp h4
    have sw : Srt w := hs w (by simp)
    have back : ∀ k ∈ K, le w k → w = k := fun k hk l => Classical.byContradiction fun n => h3 k (h2 k hk) w (by simp) (ltT_of_len (lt_len sw (hs k (by simp [h2 k hk])) l n))
    have o3 : ∀ v ∈ Pre ++ [w], ∀ u ∈ S, ¬ ltT u v := fun v hv u hu => by
      rcases List.mem_append.mp hv with q | q
      · exact h3 v q u (List.mem_cons_of_mem _ hu)
      · rw [List.mem_singleton.mp q]; exact h4'.1 u hu
    rw [e] at hs ⊢
    by_cases h : K.any (fun k => decide (le k w)) = true
    · rw [stepL, if_pos h]
      obtain ⟨k0, hk0, l0⟩ := List.any_eq_true.mp h
      refine stepL_spec S K (Pre ++ [w]) hs (fun v hv => ?_) (fun k hk => by simp [h2 k hk]) o3 h4'.2 (fun k hk v hv l => ?_) h6
      · rcases List.mem_append.mp hv with q | q
        · exact h1 v q
        · rw [List.mem_singleton.mp q]; exact ⟨k0, hk0, of_decide_eq_true l0⟩
      · rcases List.mem_append.mp hv with q | q
        · exact h5 k hk v q l
        · rw [List.mem_singleton.mp q] at l ⊢; exact back k hk l
    · rw [stepL, if_neg h]
      have no : ∀ k ∈ K, ¬ le k w := fun k hk l => h (List.any_eq_true.mpr ⟨k, hk, decide_eq_true l⟩)
      refine stepL_spec S (K ++ [w]) (Pre ++ [w]) hs (fun v hv => ?_) (fun k hk => ?_) o3 h4'.2 (fun k hk v hv l => ?_) ?_
      · rcases List.mem_append.mp hv with q | q
        · obtain ⟨k, hk, l⟩ := h1 v q; exact ⟨k, by simp [hk], l⟩
        · rw [List.mem_singleton.mp q]; exact ⟨w, by simp, le.refl w⟩
      · rcases List.mem_append.mp hk with q | q
        · simp [h2 k q]
        · simp [List.mem_singleton.mp q]
      · rcases List.mem_append.mp hk with p | p <;> rcases List.mem_append.mp hv with q | q
        · exact h5 k p v q l
        · rw [List.mem_singleton.mp q] at l ⊢; exact back k p l
        · rw [List.mem_singleton.mp p] at l ⊢
          obtain ⟨k', hk', l'⟩ := h1 v q
          exact absurd (l'.trans l) (no k' hk')
        · rw [List.mem_singleton.mp p, List.mem_singleton.mp q]
      · refine List.pairwise_append.mpr ⟨h6, List.pairwise_singleton _ _, fun k hk u hu => ?_⟩
        rw [List.mem_singleton.mp hu]
        refine Classical.byContradiction fun n => no k hk ?_
        rw [ltT_total n (h3 k (h2 k hk) w (by simp))]
        exact le.refl w
noncomputable def sortT (F : List Tx) : List Tx := F.mergeSort fun a b => !NhSG.ltKy (key b) (key a)
theorem sortT_mem {F : List Tx} {w : Tx} : w ∈ sortT F ↔ w ∈ F := (List.mergeSort_perm F _).mem_iff
theorem sortT_ord (F : List Tx) : (sortT F).Pairwise fun a b => ¬ ltT b a := by
  have h := List.pairwise_mergeSort (le := fun a b => !NhSG.ltKy (key b) (key a)) (fun a b c h1 h2 => by
    have h1' : ¬ ltT b a := by simpa [ltT] using h1
    have h2' : ¬ ltT c b := by simpa [ltT] using h2
    have : ¬ ltT c a := fun z => by
      by_cases q : ltT a b
      · exact h2' (ltT_trans z q)
      · rw [ltT_total q h1'] at z; exact h2' z
    simpa [ltT] using this) (fun a b => by
    by_cases q : NhSG.ltKy (key b) (key a) = true
    · have : ¬ ltT a b := ltT_asymm q
      have : NhSG.ltKy (key a) (key b) = false := by simpa [ltT] using this
      simp [this]
    · simp [Bool.not_eq_true _ ▸ q]) F
  exact h.imp fun {a b} h => by simpa [ltT] using h
noncomputable def leastT (F : List Tx) : List Tx := stepL [] (sortT F)
theorem leastT_told {U : Tx} {F : List Tx} (hF : ∀ v ∈ F, Sub U v) : Told U (leastT F) (up F) := by
  obtain ⟨a, b⟩ := stepL_spec (sortT F) [] [] (fun v hv => (hF v (sortT_mem.mp (by simpa using hv))).1) (fun v hv => by cases hv) (fun v hv => by cases hv) (fun v hv => by cases hv) (sortT_ord F) (fun v hv => by cases hv) .nil
  refine ⟨a, fun w => (b w).trans ?_⟩
  rw [min_up hF]
  simp only [List.nil_append, sortT_mem]
noncomputable def comp (U w : Tx) : Tx := U.filter fun x => !decide (x ∈ w)
theorem told_small {U V : Tx} {f : Tx → Prop} {L : List Tx} (hU : Srt U) (hV : Srt V) (l : le V U) (m : Mono U f) (h : ∀ w, Sub U w → f w → f (w.filter fun x => decide (x ∈ V))) (t : Told V L f) : Told U L f := by
  refine ⟨t.srt, fun w => (t.mem w).trans ?_⟩
  have up' : ∀ {w}, Sub V w → Sub U w := fun a => ⟨a.1, a.2.trans l⟩
  have cut : ∀ {w}, Sub U w → Sub V (w.filter fun x => decide (x ∈ V)) := fun a => ⟨a.1.filter _, fun x hx => by simpa using (List.mem_filter.mp hx).2⟩
  have cl : ∀ w : Tx, le (w.filter fun x => decide (x ∈ V)) w := fun w x hx => (List.mem_filter.mp hx).1
  constructor
  · rintro ⟨a, b, c⟩
    refine ⟨up' a, b, fun v v1 v2 v3 => ?_⟩
    have e := c _ (cut v1) (h v v1 v2) ((cl v).trans v3)
    refine v1.1.ext a.1 v3 ?_
    rw [← e]
    exact cl v
  · rintro ⟨a, b, c⟩
    have e := c _ (up' (cut a)) (h w a b) (cl w)
    rw [← e]
    refine ⟨cut a, h w a b, fun v v1 v2 v3 => ?_⟩
    rw [e] at v3 ⊢
    exact c v (up' v1) v2 v3
end NhFam
namespace NhFam
noncomputable def allT (w : Tx) : List Tx := w.foldl (fun acc a => acc ++ acc.map (· ++ [a])) [[]]
theorem allT_gen : ∀ (V : Tx) (acc : List Tx) (w : Tx), w ∈ V.foldl (fun acc a => acc ++ acc.map (· ++ [a])) acc ↔ ∃ u ∈ acc, ∃ t, t.Sublist V ∧ w = u ++ t
  | [], acc, w => by
    constructor
    · intro h; exact ⟨w, h, [], .slnil, by simp⟩
    · rintro ⟨u, hu, t, ht, rfl⟩
      have : t = [] := by simpa using ht
      subst this
      simpa using hu
  | a :: V, acc, w => by
    rw [List.foldl_cons, allT_gen V]
    constructor
    · rintro ⟨u, hu, t, ht, rfl⟩
      rcases List.mem_append.mp hu with q | q
      · exact ⟨u, q, t, ht.cons _, rfl⟩
      · obtain ⟨v, hv, rfl⟩ := List.mem_map.mp q
        exact ⟨v, hv, a :: t, ht.cons_cons _, by simp⟩
    · rintro ⟨u, hu, t, ht, rfl⟩
      cases ht with
      | cons _ h => exact ⟨u, by simp [hu], t, h, rfl⟩
      | cons_cons _ h => exact ⟨u ++ [a], by simp [hu], _, h, by simp⟩
theorem allT_mem {V : Tx} (hV : Srt V) {w : Tx} : w ∈ allT V ↔ Sub V w := by
  unfold allT
  rw [allT_gen]
  constructor
  · rintro ⟨u, hu, t, ht, rfl⟩
    rw [List.mem_singleton.mp hu, List.nil_append]
    exact ⟨List.Pairwise.sublist ht hV, fun x hx => ht.subset hx⟩
  · intro h
    exact ⟨[], by simp, w, sub_of_le h.1 hV h.2, rfl⟩
theorem allT_len (V : Tx) : (allT V).length = 2 ^ V.length := by
  have key : ∀ (V : Tx) (acc : List Tx), (V.foldl (fun acc a => acc ++ acc.map (· ++ [a])) acc).length = acc.length * 2 ^ V.length := fun V => by
    induction V with
    | nil => intro acc; simp
    | cons a V ih =>
      intro acc
      rw [List.foldl_cons, ih, List.length_append, List.length_map, List.length_cons, Nat.pow_succ, ← Nat.two_mul, Nat.mul_comm 2, Nat.mul_assoc, Nat.mul_comm 2]
  unfold allT
  rw [key]
  simp
noncomputable def upB (F : List Tx) (w : Tx) : Bool := F.any fun k => decide (le k w)
theorem upB_iff {F : List Tx} {w : Tx} : upB F w = true ↔ up F w := by
  unfold upB up
  rw [List.any_eq_true]
  simp
theorem told_all {U V : Tx} {f : Tx → Prop} {G : List Tx} (hU : Srt U) (hV : Srt V) (l : le V U) (m : Mono U f) (hG : ∀ w, w ∈ G ↔ Sub V w ∧ f w) (h : ∀ w, Sub U w → f w → f (w.filter fun x => decide (x ∈ V))) : Told U (leastT G) f := by
  refine told_small hU hV l m h ((leastT_told fun v hv => ((hG v).mp hv).1).congr fun w hw => ?_)
  constructor
  · rintro ⟨v, hv, q⟩
    obtain ⟨a, b⟩ := (hG v).mp hv
    exact m v w ⟨a.1, a.2.trans l⟩ ⟨hw.1, hw.2.trans l⟩ q b
  · intro q
    exact ⟨w, (hG w).mpr ⟨hw, q⟩, le.refl w⟩
theorem up_cut {F : List Tx} {V w : Tx} (hF : ∀ v ∈ F, le v V) (h : up F w) : up F (w.filter fun x => decide (x ∈ V)) := by
  obtain ⟨v, hv, l⟩ := h
  exact ⟨v, hv, fun x hx => List.mem_filter.mpr ⟨l x hx, decide_eq_true (hF v hv x hx)⟩⟩
noncomputable def bothT (F G : List Tx) (V : Tx) : List Tx := leastT (((allT V).filter (upB F)).filter (upB G))
theorem both_told {U V : Tx} {F G : List Tx} (hU : Srt U) (hV : Srt V) (l : le V U) (hF : ∀ v ∈ F, le v V) (hG : ∀ v ∈ G, le v V) : Told U (bothT F G V) (fun w => up F w ∧ up G w) := by
  refine told_all hU hV l (fun v w a b q h => ⟨up_mono U F v w a b q h.1, up_mono U G v w a b q h.2⟩) (fun w => ?_) fun w _ h => ⟨up_cut hF h.1, up_cut hG h.2⟩
  rw [List.mem_filter, List.mem_filter, allT_mem hV, upB_iff, upB_iff, and_assoc]
theorem up_app {F G : List Tx} {w : Tx} : up (F ++ G) w ↔ up F w ∨ up G w := by
  constructor
  · rintro ⟨v, hv, l⟩
    rcases List.mem_append.mp hv with q | q
    · exact .inl ⟨v, q, l⟩
    · exact .inr ⟨v, q, l⟩
  · rintro (⟨v, hv, l⟩ | ⟨v, hv, l⟩)
    · exact ⟨v, by simp [hv], l⟩
    · exact ⟨v, by simp [hv], l⟩
theorem either_told {U : Tx} {F G : List Tx} (hF : ∀ v ∈ F, Sub U v) (hG : ∀ v ∈ G, Sub U v) : Told U (leastT (F ++ G)) (fun w => up F w ∨ up G w) :=
  (leastT_told fun v hv => (List.mem_append.mp hv).elim (hF v) (hG v)).congr fun w _ => up_app
noncomputable def setM : Tx → Nat → Tx
  | [], _ => []
  | x :: U, m => if m % 2 = 1 then x :: setM U (m / 2) else setM U (m / 2)
theorem setM_sub : ∀ (U : Tx) (m : Nat), (setM U m).Sublist U
  | [], _ => .slnil
  | x :: U, m => by
    unfold setM
    split
    · exact (setM_sub U _).cons_cons _
    · exact (setM_sub U _).cons _
theorem setM_Sub {U : Tx} (hU : Srt U) (m : Nat) : Sub U (setM U m) := ⟨List.Pairwise.sublist (setM_sub U m) hU, fun x hx => (setM_sub U m).subset hx⟩
theorem and_even {a b : Nat} : a &&& b = a ↔ (a % 2 = 1 → b % 2 = 1) ∧ (a / 2) &&& (b / 2) = a / 2 := by
  have h1 : (a &&& b) % 2 = (a % 2) &&& (b % 2) := by
    have := Nat.and_mod_two_pow (a := a) (b := b) (n := 1)
    simpa using this
  have h2 : (a &&& b) / 2 = (a / 2) &&& (b / 2) := Nat.and_div_two
  have ha : a % 2 = 0 ∨ a % 2 = 1 := by omega
  have hb : b % 2 = 0 ∨ b % 2 = 1 := by omega
  constructor
  · intro h
    rw [h] at h1 h2
    refine ⟨fun z => ?_, h2.symm⟩
    rcases hb with q | q
    · rw [q, Nat.and_zero] at h1; omega
    · exact q
  · rintro ⟨p, q⟩
    rw [q] at h2
    have h3 : (a &&& b) % 2 = a % 2 := by
      rw [h1]
      rcases ha with z | z
      · rw [z, Nat.zero_and]
      · rw [z, p z]; rfl
    omega
theorem setM_le : ∀ {U : Tx} {a b : Nat}, U.Nodup → a < 2 ^ U.length → b < 2 ^ U.length → (le (setM U a) (setM U b) ↔ a &&& b = a)
  | [], a, b, _, ha, hb => by
    have : a = 0 := by simpa using ha
    subst this
    simp [setM, le]
  | x :: U, a, b, hU, ha, hb => by
    have hU' := List.nodup_cons.mp hU
    rw [List.length_cons, Nat.pow_succ] at ha hb
    have ih := setM_le (a := a / 2) (b := b / 2) hU'.2 (by omega) (by omega)
    have nx : ∀ m, x ∉ setM U m := fun m h => hU'.1 ((setM_sub U m).subset h)
    rw [and_even, ← ih]
    by_cases p : a % 2 = 1 <;> by_cases q : b % 2 = 1
    · simp only [setM, if_pos p, if_pos q]
      constructor
      · intro h
        refine ⟨fun _ => q, fun y hy => ?_⟩
        rcases List.mem_cons.mp (h y (List.mem_cons_of_mem _ hy)) with z | z
        · subst z; exact absurd hy (nx _)
        · exact z
      · rintro ⟨_, h⟩ y hy
        rcases List.mem_cons.mp hy with z | z
        · rw [z]; exact List.mem_cons_self ..
        · exact List.mem_cons_of_mem _ (h y z)
    · simp only [setM, if_pos p, if_neg q]
      exact ⟨fun h => absurd (h x (List.mem_cons_self ..)) (nx _), fun h => absurd (h.1 p) q⟩
    · simp only [setM, if_neg p, if_pos q]
      constructor
      · intro h
        refine ⟨fun z => absurd z p, fun y hy => ?_⟩
        rcases List.mem_cons.mp (h y hy) with z | z
        · subst z; exact absurd hy (nx _)
        · exact z
      · rintro ⟨_, h⟩ y hy
        exact List.mem_cons_of_mem _ (h y hy)
    · simp only [setM, if_neg p, if_neg q]
      exact ⟨fun h => ⟨fun z => absurd z p, h⟩, fun h => h.2⟩
theorem setM_inj {U : Tx} {a b : Nat} (hU : U.Nodup) (ha : a < 2 ^ U.length) (hb : b < 2 ^ U.length) (h : setM U a = setM U b) : a = b := by
  have h1 := (setM_le hU ha hb).mp (by rw [h]; exact le.refl _)
  have h2 := (setM_le hU hb ha).mp (by rw [h]; exact le.refl _)
  rw [Nat.and_comm] at h2
  rw [← h1, h2]
theorem setM_onto : ∀ {U t : Tx}, t.Sublist U → ∃ m, m < 2 ^ U.length ∧ setM U m = t
  | [], t, h => ⟨0, by simp, by
    have e : t = [] := by simpa using h
    rw [e]
    rfl⟩
  | x :: U, t, h => by
    cases h with
    | cons _ h =>
      obtain ⟨m, a, b⟩ := setM_onto h
      exact ⟨2 * m, by rw [List.length_cons, Nat.pow_succ]; omega, by rw [setM, if_neg (by omega), show 2 * m / 2 = m by omega, b]⟩
    | cons_cons _ h =>
      obtain ⟨m, a, b⟩ := setM_onto h
      exact ⟨2 * m + 1, by rw [List.length_cons, Nat.pow_succ]; omega, by rw [setM, if_pos (by omega), show (2 * m + 1) / 2 = m by omega, b]⟩
structure LeastM (M D : List Nat) : Prop where
  nd : D.Nodup
  mem : ∀ m, m ∈ D ↔ m ∈ M ∧ ∀ k ∈ M, k &&& m = k → k = m
theorem texts_told {U : Tx} {M D : List Nat} (hU : Srt U) (h : LeastM M D) (hM : ∀ m ∈ M, m < 2 ^ U.length) : Told U (sortT (D.map (setM U))) (up (M.map (setM U))) := by
  have nd := Srt.nodup hU
  have lt : ∀ m ∈ D, m < 2 ^ U.length := fun m hm => hM m ((h.mem m).mp hm).1
  have hF : ∀ v ∈ M.map (setM U), Sub U v := fun v hv => by
    obtain ⟨m, _, rfl⟩ := List.mem_map.mp hv
    exact setM_Sub hU m
  refine ⟨?_, fun w => ?_⟩
  · have n1 : (D.map (setM U)).Nodup := by
      rw [List.Nodup, List.pairwise_map]
      exact List.Pairwise.imp_of_mem (fun {a b} ha hb q e => q (setM_inj nd (lt a ha) (lt b hb) e)) h.nd
    have n2 : (sortT (D.map (setM U))).Nodup := (List.mergeSort_perm _ _).nodup_iff.mpr n1
    have o := sortT_ord (D.map (setM U))
    exact (List.pairwise_and_iff.mpr ⟨o, n2⟩).imp fun {a b} q => Classical.byContradiction fun z => q.2 (ltT_total z q.1)
  · rw [sortT_mem, min_up hF]
    constructor
    · intro hw
      obtain ⟨m, hm, rfl⟩ := List.mem_map.mp hw
      obtain ⟨a, b⟩ := (h.mem m).mp hm
      refine ⟨List.mem_map.mpr ⟨m, a, rfl⟩, fun v hv l => ?_⟩
      obtain ⟨k, hk, rfl⟩ := List.mem_map.mp hv
      rw [b k hk ((setM_le nd (hM k hk) (hM m a)).mp l)]
    · rintro ⟨a, b⟩
      obtain ⟨m, hm, rfl⟩ := List.mem_map.mp a
      refine List.mem_map.mpr ⟨m, (h.mem m).mpr ⟨hm, fun k hk l => ?_⟩, rfl⟩
      exact setM_inj nd (hM k hk) (hM m hm) (b _ (List.mem_map.mpr ⟨k, hk, rfl⟩) ((setM_le nd (hM k hk) (hM m hm)).mpr l))
theorem up_all {U : Tx} (hU : Srt U) {f : Tx → Prop} (m : Mono U f) {M : List Nat} (hM : ∀ k, k ∈ M ↔ k < 2 ^ U.length ∧ f (setM U k)) {w : Tx} (hw : Sub U w) : up (M.map (setM U)) w ↔ f w := by
  constructor
  · rintro ⟨v, hv, l⟩
    obtain ⟨k, hk, rfl⟩ := List.mem_map.mp hv
    exact m _ _ (setM_Sub hU k) hw l ((hM k).mp hk).2
  · intro h
    obtain ⟨k, a, b⟩ := setM_onto (sub_of_le hw.1 hU hw.2)
    exact ⟨w, List.mem_map.mpr ⟨k, (hM k).mpr ⟨a, by rw [b]; exact h⟩, b⟩, le.refl w⟩
end NhFam
namespace Nhk42
open PySem L2 Nh PL
noncomputable def g_is_nail : PSv := (pRet (pAndV (pUn (dIsi .str) (pVar 0)) (pAndV (pBin pEq false (pCaS dLen (aCons false (pVar 0) aNil)) (pC (.int 1))) (pChain (dCmp .le) (dCmp .le) false false (pC (.str "a")) (pVar 0) (pC (.str "z"))))))
noncomputable def fn_is_nail : List PyData → Option Sl := fnB 1 1 g_is_nail
noncomputable def t_set_of_L0 : PGv := (gNameP 1)
noncomputable def g_set_of_L0 : PSv := (pIfS (tNotP (pTru (pCall fn_is_nail (aCons false (pVar 1) aNil))))
  pNever
  pNext)
noncomputable def g_set_of : PSv := (pSeq (pIfS (tNotP (pTru (pUn (dIsi .str) (pVar 0))))
  pNever
  pNext)
  (pSeq (pFor (iAny (pVar 0)) t_set_of_L0
  g_set_of_L0)
  (pRet (pJoin "" (pSortSet (pVar 0))))))
noncomputable def fn_set_of : List PyData → Option Sl := fnB 1 2 g_set_of
noncomputable def t_bits_of_L0 : PGv := (gNameP 3)
noncomputable def g_bits_of_L0 : PSv := (pSeq (pIfS (isB (pBin (pIn false) false (pVar 3) (pVar 0)))
  (pSet 1 (pBin pAdd false (pVar 1) (pVar 2)))
  pNext)
  (pSet 2 (pBin pMul false (pVar 2) (pC (.int 2)))))
noncomputable def g_bits_of : PSv := (pSeq (pSet 1 (pC (.int 0)))
  (pSeq (pSet 2 (pC (.int 1)))
  (pSeq (pFor (iAny (pC (.str "abcdefghijklmnopqrstuvwxyz"))) t_bits_of_L0
  g_bits_of_L0)
  (pRet (pVar 1)))))
noncomputable def fn_bits_of : List PyData → Option Sl := fnB 1 4 g_bits_of
noncomputable def g_in_told_order : PSv := (pRet (pSortK (pVar 0)))
noncomputable def fn_in_told_order : List PyData → Option Sl := fnB 1 1 g_in_told_order
noncomputable def t_has_part_among_L0 : PGv := (gNameP 2)
noncomputable def g_has_part_among_L0 : PSv := (pIfS (isB (pBin pEq false (pBin pAnd false (pVar 2) (pVar 0)) (pVar 2)))
  (pRet (pC (.bool true)))
  pNext)
noncomputable def g_has_part_among : PSv := (pSeq (pFor (iAny (pVar 1)) t_has_part_among_L0
  g_has_part_among_L0)
  (pRet (pC (.bool false))))
noncomputable def fn_has_part_among : List PyData → Option Sl := fnB 2 3 g_has_part_among
noncomputable def t_least_of_L0 : PGv := (gNameP 3)
noncomputable def g_least_of_L0 : PSv := (pSeq (pSet 4 (pCall fn_bits_of (aCons false (pVar 3) aNil)))
  (pIfS (tNotP (pTru (pCall fn_has_part_among (aCons false (pVar 4) (aCons false (pVar 2) aNil)))))
  (pSeq (pExpr (pAppend 2 (pVar 4)))
  (pExpr (pAppend 1 (pVar 3))))
  pNext))
noncomputable def g_least_of : PSv := (pSeq (pSet 1 (pLst dNil))
  (pSeq (pSet 2 (pLst dNil))
  (pSeq (pFor (iAny (pCall fn_in_told_order (aCons false (pVar 0) aNil))) t_least_of_L0
  g_least_of_L0)
  (pRet (pVar 1)))))
noncomputable def fn_least_of : List PyData → Option Sl := fnB 1 5 g_least_of
noncomputable def t_all_sets_C1 : PGv := (gNameP 0)
noncomputable def e_all_sets_C1 : PEv := (pBin pAdd false (pVar 0) (pVar 1))
noncomputable def t_all_sets_L0 : PGv := (gNameP 2)
noncomputable def g_all_sets_L0 : PSv := (pSet 1 (pBin pAdd false (pVar 1) (pComp [none, some 2] (iAny (pVar 1)) t_all_sets_C1 tYesP e_all_sets_C1)))
noncomputable def g_all_sets : PSv := (pSeq (pSet 1 (pLst (dCons (pC (.str "")) dNil)))
  (pSeq (pFor (iAny (pVar 0)) t_all_sets_L0
  g_all_sets_L0)
  (pRet (pVar 1))))
noncomputable def fn_all_sets : List PyData → Option Sl := fnB 1 3 g_all_sets
noncomputable def g_check_many : PSv := (pIfS (isB (pBin (sc2 (dCmp .gt)) false (pCaS dLen (aCons false (pVar 0) aNil)) (pC (.int 10))))
  pNever
  pNext)
noncomputable def fn_check_many : List PyData → Option Sl := fnB 1 1 g_check_many
noncomputable def g_nails_among : PSv := (pRet (pCall fn_set_of (aCons false (pJoin "" (pVar 0)) aNil)))
noncomputable def fn_nails_among : List PyData → Option Sl := fnB 1 1 g_nails_among
noncomputable def t_breaks_C0 : PGv := (gNameP 0)
noncomputable def e_breaks_C0 : PEv := (pCall fn_bits_of (aCons false (pVar 0) aNil))
noncomputable def g_breaks : PSv := (pRet (pCall fn_has_part_among (aCons false (pCall fn_bits_of (aCons false (pCall fn_set_of (aCons false (pVar 1) aNil)) aNil)) (aCons false (pComp [none] (iAny (pVar 0)) t_breaks_C0 tYesP e_breaks_C0) aNil))))
noncomputable def fn_breaks : List PyData → Option Sl := fnB 2 2 g_breaks
noncomputable def t_both_rules_C0 : PGv := (gNameP 0)
noncomputable def e_both_rules_C0 : PEv := (pCall fn_bits_of (aCons false (pVar 0) aNil))
noncomputable def t_both_rules_C1 : PGv := (gNameP 0)
noncomputable def e_both_rules_C1 : PEv := (pCall fn_bits_of (aCons false (pVar 0) aNil))
noncomputable def t_both_rules_C2 : PGv := (gNameP 0)
noncomputable def e_both_rules_C2 : PEv := (pVar 0)
noncomputable def c_both_rules_C2 : PTv := (pTru (pCall fn_has_part_among (aCons false (pCall fn_bits_of (aCons false (pVar 0) aNil)) (aCons false (pVar 1) aNil))))
noncomputable def t_both_rules_C3 : PGv := (gNameP 0)
noncomputable def e_both_rules_C3 : PEv := (pVar 0)
noncomputable def c_both_rules_C3 : PTv := (pTru (pCall fn_has_part_among (aCons false (pCall fn_bits_of (aCons false (pVar 0) aNil)) (aCons false (pVar 1) aNil))))
noncomputable def g_both_rules : PSv := (pSeq (pSet 2 (pCall fn_nails_among (aCons false (pBin pAdd false (pVar 0) (pVar 1)) aNil)))
  (pSeq (pExpr (pCall fn_check_many (aCons false (pVar 2) aNil)))
  (pSeq (pSet 3 (pComp [none] (iAny (pVar 0)) t_both_rules_C0 tYesP e_both_rules_C0))
  (pSeq (pSet 4 (pComp [none] (iAny (pVar 1)) t_both_rules_C1 tYesP e_both_rules_C1))
  (pSeq (pSet 5 (pComp [none, some 3] (iAny (pCall fn_all_sets (aCons false (pVar 2) aNil))) t_both_rules_C2 c_both_rules_C2 e_both_rules_C2))
  (pRet (pCall fn_least_of (aCons false (pComp [none, some 4] (iAny (pVar 5)) t_both_rules_C3 c_both_rules_C3 e_both_rules_C3) aNil))))))))
noncomputable def fn_both_rules : List PyData → Option Sl := fnB 2 6 g_both_rules
noncomputable def g_either_rule : PSv := (pSeq (pExpr (pCall fn_check_many (aCons false (pCall fn_nails_among (aCons false (pBin pAdd false (pVar 0) (pVar 1)) aNil)) aNil)))
  (pRet (pCall fn_least_of (aCons false (pBin pAdd false (pVar 0) (pVar 1)) aNil))))
noncomputable def fn_either_rule : List PyData → Option Sl := fnB 2 2 g_either_rule
noncomputable def g_law_at : PSv := (pSeq (pIfS (isB (pBin (sc2 (dCmp .lt)) false (pVar 1) (pCaS dLen (aCons false (pVar 0) aNil))))
  (pRet (pBin pIx false (pVar 0) (pVar 1)))
  pNext)
  (pRet (pC (.int 0))))
noncomputable def fn_law_at : List PyData → Option Sl := fnB 2 2 g_law_at
noncomputable def g_law_stir : PSv := (pSeq (pSet 2 (pBin pMod false (pBin pAdd false (pBin pAdd false (pBin pAdd false (pBin pMod false (pVar 0) (pC (.int 2147483629))) (pBin pMul false (pC (.int 7919)) (pVar 1))) (pBin pMul false (pVar 1) (pVar 1))) (pC (.int 11))) (pC (.int 2147483629))))
  (pSeq (pSet 2 (pBin pMod false (pBin pMul false (pVar 2) (pVar 2)) (pC (.int 2147483587))))
  (pRet (pBin pFdiv false (pBin pMod false (pBin pAdd false (pBin pMul false (pVar 2) (pC (.int 48271))) (pBin pMul false (pC (.int 31)) (pVar 1))) (pC (.int 2147483563))) (pC (.int 13))))))
noncomputable def fn_law_stir : List PyData → Option Sl := fnB 2 3 g_law_stir
noncomputable def t_law_nails_C0 : PGv := (gNameP 0)
noncomputable def e_law_nails_C0 : PEv := (pBin pIx false (pVar 1) (pBin pMod false (pBin pAdd false (pVar 2) (pBin pMul false (pVar 0) (pVar 3))) (pC (.int 26))))
noncomputable def g_law_nails : PSv := (pSeq (pSet 2 (pC (.str "abcdefghijklmnopqrstuvwxyz")))
  (pSeq (pSet 3 (pBin pIx false (pLst (dInts [1, 3, 5, 7, 9, 11, 15, 17, 19, 21, 23, 25])) (pBin pMod false (pBin pFdiv false (pVar 0) (pC (.int 26))) (pC (.int 12)))))
  (pRet (pComp [none, some 2, some 0, some 3] (iRng1P (aCons false (pVar 1) aNil)) t_law_nails_C0 tYesP e_law_nails_C0))))
noncomputable def fn_law_nails : List PyData → Option Sl := fnB 2 4 g_law_nails
noncomputable def g_law_by_size : PSv := (pRet (normX (pTupM (mCons (pCaS dLen (aCons false (pVar 0) aNil)) (mCons (pVar 0) mNil)))))
noncomputable def fn_law_by_size : List PyData → Option Sl := fnB 1 1 g_law_by_size
noncomputable def t_law_set_C0 : PGv := (gNameP 0)
noncomputable def e_law_set_C0 : PEv := (pBin pIx false (pVar 1) (pVar 0))
noncomputable def c_law_set_C0 : PTv := (isB (pBin pEq false (pBin pAnd false (pBin pShr false (pVar 2) (pVar 0)) (pC (.int 1))) (pC (.int 1))))
noncomputable def g_law_set : PSv := (pRet (pJoin "" (pComp [none, some 1, some 0] (iRng1P (aCons false (pCaS dLen (aCons false (pVar 1) aNil)) aNil)) t_law_set_C0 c_law_set_C0 e_law_set_C0)))
noncomputable def fn_law_set : List PyData → Option Sl := fnB 2 2 g_law_set
noncomputable def t_law_least_C1 : PGv := (gNameP 0)
noncomputable def e_law_least_C1 : PEv := (pVar 0)
noncomputable def c_law_least_C1 : PTv := (tAndP (isB (pBin pEq false (pBin pAnd false (pVar 0) (pVar 1)) (pVar 0))) (isB (pBin pNe false (pVar 0) (pVar 1))))
noncomputable def t_law_least_L0 : PGv := (gNameP 2)
noncomputable def g_law_least_L0 : PSv := (pSeq (pSet 3 (pComp [none, some 2] (iAny (pVar 0)) t_law_least_C1 c_law_least_C1 e_law_least_C1))
  (pIfS (tAndP (isB (pBin pEq false (pVar 3) (pLst dNil))) (isB (pBin (pIn true) false (pVar 2) (pVar 1))))
  (pExpr (pAppend 1 (pVar 2)))
  pNext))
noncomputable def g_law_least : PSv := (pSeq (pSet 1 (pLst dNil))
  (pSeq (pFor (iAny (pVar 0)) t_law_least_L0
  g_law_least_L0)
  (pRet (pVar 1))))
noncomputable def fn_law_least : List PyData → Option Sl := fnB 1 4 g_law_least
noncomputable def t_law_texts_C0 : PGv := (gNameP 0)
noncomputable def e_law_texts_C0 : PEv := (pCall fn_law_set (aCons false (pVar 0) (aCons false (pVar 1) aNil)))
noncomputable def g_law_texts : PSv := (pRet (pSortK (pComp [none, some 1] (iAny (pVar 0)) t_law_texts_C0 tYesP e_law_texts_C0)))
noncomputable def fn_law_texts : List PyData → Option Sl := fnB 2 2 g_law_texts
noncomputable def t_law_masks_L0 : PGv := (gNameP 7)
noncomputable def g_law_masks_L0 : PSv := (pSeq (pIfS (tNotP (isB (pChain (dCmp .lt) (dCmp .lt) false false (pUn dNeg (pBin pPow false (pC (.int 10)) (pC (.int 18)))) (pVar 5) (pBin pPow false (pC (.int 10)) (pC (.int 18))))))
  (pSeq (pSet 8 (pBin pAdd false (pC (.int 1)) (pBin pMod false (pVar 6) (pBin pSub false (pBin pShl false (pC (.int 1)) (pVar 2)) (pC (.int 1))))))
  (pSet 6 (pBin pFdiv false (pVar 6) (pBin pSub false (pBin pShl false (pC (.int 1)) (pVar 2)) (pC (.int 1))))))
  (pSet 8 (pBin pAdd false (pC (.int 1)) (pBin pMod false (pCall fn_law_stir (aCons false (pBin pAdd false (pCall fn_law_at (aCons false (pVar 0) (aCons false (pBin pAdd false (pBin pAdd false (pVar 1) (pC (.int 1))) (pBin pMod false (pVar 7) (pC (.int 4)))) aNil))) (pVar 7)) (aCons false (pVar 7) aNil))) (pBin pSub false (pBin pShl false (pC (.int 1)) (pVar 2)) (pC (.int 1)))))))
  (pExpr (pAppend 4 (pVar 8))))
noncomputable def g_law_masks : PSv := (pSeq (pSet 4 (pLst dNil))
  (pSeq (pSet 5 (pCall fn_law_at (aCons false (pVar 0) (aCons false (pVar 1) aNil))))
  (pSeq (pSet 6 (pBin pFdiv false (pVar 5) (pBin pMul false (pC (.int 2)) (pVar 3))))
  (pSeq (pFor (iRng1P (aCons false (pBin pAdd false (pC (.int 1)) (pBin pMod false (pBin pFdiv false (pVar 5) (pC (.int 2))) (pVar 3))) aNil)) t_law_masks_L0
  g_law_masks_L0)
  (pRet (pVar 4))))))
noncomputable def fn_law_masks : List PyData → Option Sl := fnB 4 9 g_law_masks
noncomputable def t_law_breaks_C0 : PGv := (gNameP 0)
noncomputable def e_law_breaks_C0 : PEv := (pBin pEq false (pBin pAnd false (pVar 0) (pVar 1)) (pVar 0))
noncomputable def g_law_breaks : PSv := (pRet (pCaS dAny (aCons false (pComp [none, some 1] (iAny (pVar 0)) t_law_breaks_C0 tYesP e_law_breaks_C0) aNil)))
noncomputable def fn_law_breaks : List PyData → Option Sl := fnB 2 2 g_law_breaks
noncomputable def t_law_told_L0 : PGv := (gTupP 2 (gConsP (gNameP 2) (gConsP (gNameP 3) gNilP)))
noncomputable def g_law_told_L0 : PSv := (pIfS (tOrP (tNotP (pTru (pUn (dIsi .str) (pVar 2)))) (isB (pBin pNe false (pVar 2) (pVar 3))))
  (pRet (pC (.bool false)))
  pNext)
noncomputable def g_law_told : PSv := (pSeq (pIfS (tOrP (tNotP (pTru (pUn (dIsi .list) (pVar 0)))) (isB (pBin pNe false (pCaS dLen (aCons false (pVar 0) aNil)) (pCaS dLen (aCons false (pVar 1) aNil)))))
  (pRet (pC (.bool false)))
  pNext)
  (pSeq (pFor (iZipP (pVar 0) (pVar 1)) t_law_told_L0
  g_law_told_L0)
  (pRet (pC (.bool true)))))
noncomputable def fn_law_told : List PyData → Option Sl := fnB 2 4 g_law_told
noncomputable def t_law_L1 : PGv := (gTupP 2 (gConsP (gNameP 12) (gConsP (gNameP 13) gNilP)))
noncomputable def g_law_L1 : PSv := (pSeq (pSet 14 (pCall fn_breaks (aCons false (pVar 12) (aCons false (pVar 11) aNil))))
  (pIfS (tOrP (tNotP (pTru (pUn (dIsi .bool) (pVar 14)))) (isB (pBin pNe false (pVar 14) (pCall fn_law_breaks (aCons false (pVar 13) (aCons false (pVar 10) aNil))))))
  (pRet (pC (.bool false)))
  pNext))
noncomputable def t_law_L0 : PGv := (gNameP 10)
noncomputable def g_law_L0 : PSv := (pSeq (pSet 11 (pBin pAdd false (pCall fn_law_set (aCons false (pVar 10) (aCons false (pVar 1) aNil))) (pBin pMulS false (pVar 7) (pBin pMod false (pVar 10) (pC (.int 2))))))
  (pSeq (pFor (iAny (pLst (dCons (pTup (dCons (pBin pIx false (pVar 6) (pC (.int 0))) (dCons (pVar 2) dNil))) (dCons (pTup (dCons (pBin pIx false (pVar 6) (pC (.int 1))) (dCons (pVar 3) dNil))) dNil)))) t_law_L1
  g_law_L1)
  (pSeq (pIfS (tAndP (pTru (pCall fn_law_breaks (aCons false (pVar 2) (aCons false (pVar 10) aNil)))) (pTru (pCall fn_law_breaks (aCons false (pVar 3) (aCons false (pVar 10) aNil)))))
  (pExpr (pAppend 8 (pVar 10)))
  pNext)
  (pIfS (tOrP (pTru (pCall fn_law_breaks (aCons false (pVar 2) (aCons false (pVar 10) aNil)))) (pTru (pCall fn_law_breaks (aCons false (pVar 3) (aCons false (pVar 10) aNil)))))
  (pExpr (pAppend 9 (pVar 10)))
  pNext))))
noncomputable def g_law : PSv := (pSeq (pSet 1 (pSorted (pCall fn_law_nails (aCons false (pCall fn_law_at (aCons false (pVar 0) (aCons false (pC (.int 0)) aNil))) (aCons false (pBin pAdd false (pC (.int 1)) (pBin pMod false (pCall fn_law_at (aCons false (pVar 0) (aCons false (pC (.int 1)) aNil))) (pC (.int 5)))) aNil)))))
  (pSeq (pSet 2 (pCall fn_law_least (aCons false (pCall fn_law_masks (aCons false (pVar 0) (aCons false (pC (.int 2)) (aCons false (pCaS dLen (aCons false (pVar 1) aNil)) (aCons false (pC (.int 8)) aNil))))) aNil)))
  (pSeq (pSet 3 (pCall fn_law_least (aCons false (pCall fn_law_masks (aCons false (pVar 0) (aCons false (pC (.int 7)) (aCons false (pCaS dLen (aCons false (pVar 1) aNil)) (aCons false (pC (.int 8)) aNil))))) aNil)))
  (pSeq (pSet 4 (pCall fn_law_texts (aCons false (pVar 2) (aCons false (pVar 1) aNil))))
  (pSeq (pSet 5 (pCall fn_law_texts (aCons false (pVar 3) (aCons false (pVar 1) aNil))))
  (pSeq (pSet 6 (pLst (dCons (pLstOf (pVar 4)) (dCons (pLstOf (pVar 5)) dNil))))
  (pSeq (pSet 7 (pBin pIx false (pCall fn_law_nails (aCons false (pCall fn_law_at (aCons false (pVar 0) (aCons false (pC (.int 0)) aNil))) (aCons false (pC (.int 6)) aNil))) (pUn dNeg (pC (.int 1)))))
  (pSeq (pSet 8 (pLst dNil))
  (pSeq (pSet 9 (pLst dNil))
  (pSeq (pFor (iRng1P (aCons false (pBin pShl false (pC (.int 1)) (pCaS dLen (aCons false (pVar 1) aNil))) aNil)) t_law_L0
  g_law_L0)
  (pSeq (pSet 15 (pLst (dCons (pCall fn_law_texts (aCons false (pCall fn_law_least (aCons false (pVar 8) aNil)) (aCons false (pVar 1) aNil))) (dCons (pCall fn_law_texts (aCons false (pCall fn_law_least (aCons false (pVar 9) aNil)) (aCons false (pVar 1) aNil))) dNil))))
  (pSeq (pSet 14 (pCall fn_both_rules (aCons false (pBin pIx false (pVar 6) (pC (.int 0))) (aCons false (pBin pIx false (pVar 6) (pC (.int 1))) aNil))))
  (pSeq (pIfS (tOrP (tNotP (pTru (pCall fn_law_told (aCons false (pVar 14) (aCons false (pBin pIx false (pVar 15) (pC (.int 0))) aNil))))) (tNotP (pTru (pCall fn_law_told (aCons false (pCall fn_either_rule (aCons false (pBin pIx false (pVar 6) (pC (.int 0))) (aCons false (pBin pIx false (pVar 6) (pC (.int 1))) aNil))) (aCons false (pBin pIx false (pVar 15) (pC (.int 1))) aNil))))))
  (pRet (pC (.bool false)))
  pNext)
  (pSeq (pExpr (pAppend 14 (pC (.str ""))))
  (pSeq (pExpr (pAppT (pCall fn_either_rule (aCons false (pBin pIx false (pVar 6) (pC (.int 0))) (aCons false (pBin pIx false (pVar 6) (pC (.int 1))) aNil))) (.str "")))
  (pSeq (pIfS (isB (pBin pNe false (pVar 6) (pLst (dCons (pVar 4) (dCons (pVar 5) dNil)))))
  (pRet (pC (.bool false)))
  pNext)
  (pRet (pAndV (pCall fn_law_told (aCons false (pCall fn_both_rules (aCons false (pBin pIx false (pVar 6) (pC (.int 1))) (aCons false (pBin pIx false (pVar 6) (pC (.int 0))) aNil))) (aCons false (pBin pIx false (pVar 15) (pC (.int 0))) aNil))) (pCall fn_law_told (aCons false (pCall fn_either_rule (aCons false (pBin pIx false (pVar 6) (pC (.int 1))) (aCons false (pBin pIx false (pVar 6) (pC (.int 0))) aNil))) (aCons false (pBin pIx false (pVar 15) (pC (.int 1))) aNil)))))))))))))))))))))
noncomputable def fn_law : List PyData → Option Sl := fnB 1 16 g_law
end Nhk42
namespace Nhk42
open PySem L2 Nh PL
noncomputable def top (i : Nat) : Stmt := PySem.Challenge.pw_nailhang_k42_both_and_either.main.body.getD i (.Pass ⟨0, 0, 0, 0⟩)
section
variable {P : Program} {w : World} {K : PySem.W.Frag} {mg : Str → Option Value} {base : Heap}
noncomputable abbrev s_is_nail : Stmt := top 5
theorem sc_is_nail : FnScope ["thing"] ["thing"] (defScope s_is_nail) := ⟨rfl, rfl, rfl, by decide +kernel, rfl, by decide +kernel, by decide +kernel⟩
theorem ok_is_nail (D : Def K mg "is_nail" s_is_nail ["thing"]) (B : Bn mg)  : Own P w K mg base 1 "is_nail" ["thing"] (spP K fn_is_nail) := by
  delta fn_is_nail
  refine ownP (g := g_is_nail) D sc_is_nail rfl rfl (by decide) fun f cdv A outer s H E hr => ?_
  delta g_is_nail
  exact (xss_one (xs_ret (xe_and (xe_isi .str (by rfl) (by exact B.isinstance) (xe_var 0) (by rfl) (by exact B.str) PyProof.Rows.boot_str) (xe_and (xe_eq hr.units (xe_len (by rfl) (by exact B.len) (xa_cons (xe_var 0) xa_nil)) xe_int) (xe_one (xe_ch .le .le xe_str (xe_var 0) xe_str))))))
noncomputable abbrev s_set_of : Stmt := top 7
theorem sc_set_of : FnScope ["nails", "sign"] ["nails"] (defScope s_set_of) := ⟨rfl, rfl, rfl, by decide +kernel, rfl, by decide +kernel, by decide +kernel⟩
theorem ok_set_of (D : Def K mg "set_of" s_set_of ["nails"]) (B : Bn mg) (D_is_nail : Own P w K mg base 1 "is_nail" ["thing"] (spP K fn_is_nail)) : Own P w K mg base 2 "set_of" ["nails"] (spP K fn_set_of) := by
  delta fn_set_of
  refine ownP (g := g_set_of) D sc_set_of rfl rfl (by decide) fun f cdv A outer s H E hr => ?_
  delta g_set_of
  exact (xss_cons (xs_if (xt_not (xt_tru (xe_isi .str (by rfl) (by exact B.isinstance) (xe_var 0) (by rfl) (by exact B.str) PyProof.Rows.boot_str)))
  (xss_one xs_never)
  xss_nil)
  (xss_cons (xs_for PassesOwn.never (by rfl) (xi_any (xe_var 0)) (by delta t_set_of_L0; exact (xg_name 1 sc_set_of.nd))
  (by delta g_set_of_L0; exact (xss_one (xs_if (xt_not (xt_tru (xe_own D_is_nail (hr.mono (by decide)) (by rfl) (xa_cons (xe_var 1) xa_nil))))
  (xss_one xs_never)
  xss_nil))))
  (xss_one (xs_ret (xe_join (xe_sortset rfl (by rfl) (by exact B.sorted) (by rfl) (by exact B.set) (xe_var 0)))))))
noncomputable abbrev s_bits_of : Stmt := top 11
theorem sc_bits_of : FnScope ["nails", "bits", "bit", "letter"] ["nails"] (defScope s_bits_of) := ⟨rfl, rfl, rfl, by decide +kernel, rfl, by decide +kernel, by decide +kernel⟩
theorem ok_bits_of (D : Def K mg "bits_of" s_bits_of ["nails"]) (B : Bn mg) {t_LETTERS : Tok} (G_LETTERS : mg "LETTERS" = some (.str "abcdefghijklmnopqrstuvwxyz" t_LETTERS)) : Own P w K mg base 1 "bits_of" ["nails"] (spP K fn_bits_of) := by
  delta fn_bits_of
  refine ownP (g := g_bits_of) D sc_bits_of rfl rfl (by decide) fun f cdv A outer s H E hr => ?_
  delta g_bits_of
  exact (xss_cons (xs_set 1 sc_bits_of.nd xe_int)
  (xss_cons (xs_set 2 sc_bits_of.nd xe_int)
  (xss_cons (xs_for PassesOwn.never (by rfl) (xi_any (xe_gstr (by rfl) (by exact G_LETTERS))) (by delta t_bits_of_L0; exact (xg_name 3 sc_bits_of.nd))
  (by delta g_bits_of_L0; exact (xss_cons (xs_if (xt_in (xe_var 3) (xe_var 0))
  (xss_one (xs_set 1 sc_bits_of.nd (xe_add (xe_var 1) (xe_var 2))))
  xss_nil)
  (xss_one (xs_set 2 sc_bits_of.nd (xe_mul (xe_var 2) xe_int))))))
  (xss_one (xs_ret (xe_var 1))))))
noncomputable abbrev s_in_told_order : Stmt := top 12
theorem sc_in_told_order : FnScope ["sets"] ["sets"] (defScope s_in_told_order) := ⟨rfl, rfl, rfl, by decide +kernel, rfl, by decide +kernel, by decide +kernel⟩
theorem ok_in_told_order {c T : Addr} (D : DefT K mg "in_told_order" s_in_told_order ["sets"] c T) (B : Bn mg)  : Own P w K mg base 1 "in_told_order" ["sets"] (spP K fn_in_told_order) := by
  delta fn_in_told_order
  refine ownT (g := g_in_told_order) D sc_in_told_order rfl rfl (by decide) fun f A outer s H E hr => ?_
  delta g_in_told_order
  exact (xss_one (xs_ret (xe_sortL rfl D.tp D.hd hr (by rfl) (by exact B.sorted) (by exact B.len) (xe_var 0) (by show (Str.ofString "in_told_order" ++ Str.ofString ".<locals>.") ++ Str.ofString "<lambda>" = _; decide +kernel))))
noncomputable abbrev s_has_part_among : Stmt := top 13
theorem sc_has_part_among : FnScope ["bits", "parts", "part"] ["bits", "parts"] (defScope s_has_part_among) := ⟨rfl, rfl, rfl, by decide +kernel, rfl, by decide +kernel, by decide +kernel⟩
theorem ok_has_part_among (D : Def K mg "has_part_among" s_has_part_among ["bits", "parts"]) (B : Bn mg)  : Own P w K mg base 1 "has_part_among" ["bits", "parts"] (spP K fn_has_part_among) := by
  delta fn_has_part_among
  refine ownP (g := g_has_part_among) D sc_has_part_among rfl rfl (by decide) fun f cdv A outer s H E hr => ?_
  delta g_has_part_among
  exact (xss_cons (xs_for PassesOwn.never (by rfl) (xi_any (xe_var 1)) (by delta t_has_part_among_L0; exact (xg_name 2 sc_has_part_among.nd))
  (by delta g_has_part_among_L0; exact (xss_one (xs_if (xt_eq hr.units (xe_band (xe_var 2) (xe_var 0)) (xe_var 2))
  (xss_one (xs_ret xe_bl))
  xss_nil))))
  (xss_one (xs_ret xe_bl)))
noncomputable abbrev s_least_of : Stmt := top 14
theorem sc_least_of : FnScope ["sets", "told", "kept", "nails", "bits"] ["sets"] (defScope s_least_of) := ⟨rfl, rfl, rfl, by decide +kernel, rfl, by decide +kernel, by decide +kernel⟩
theorem ok_least_of (D : Def K mg "least_of" s_least_of ["sets"]) (B : Bn mg) (D_in_told_order : Own P w K mg base 1 "in_told_order" ["sets"] (spP K fn_in_told_order)) (D_bits_of : Own P w K mg base 1 "bits_of" ["nails"] (spP K fn_bits_of)) (D_has_part_among : Own P w K mg base 1 "has_part_among" ["bits", "parts"] (spP K fn_has_part_among)) : Own P w K mg base 2 "least_of" ["sets"] (spP K fn_least_of) := by
  delta fn_least_of
  refine ownP (g := g_least_of) D sc_least_of rfl rfl (by decide) fun f cdv A outer s H E hr => ?_
  delta g_least_of
  exact (xss_cons (xs_set 1 sc_least_of.nd (xe_lst xd_nil))
  (xss_cons (xs_set 2 sc_least_of.nd (xe_lst xd_nil))
  (xss_cons (xs_for PassesOwn.never (by rfl) (xi_any (xe_own D_in_told_order (hr.mono (by decide)) (by rfl) (xa_cons (xe_var 0) xa_nil))) (by delta t_least_of_L0; exact (xg_name 3 sc_least_of.nd))
  (by delta g_least_of_L0; exact (xss_cons (xs_set 4 sc_least_of.nd (xe_own D_bits_of (hr.mono (by decide)) (by rfl) (xa_cons (xe_var 3) xa_nil)))
  (xss_one (xs_if (xt_not (xt_tru (xe_own D_has_part_among (hr.mono (by decide)) (by rfl) (xa_cons (xe_var 4) (xa_cons (xe_var 2) xa_nil)))))
  (xss_cons (xs_expr (xe_append 2 (xe_var 4)))
  (xss_one (xs_expr (xe_append 1 (xe_var 3)))))
  xss_nil)))))
  (xss_one (xs_ret (xe_var 1))))))
noncomputable abbrev s_all_sets : Stmt := top 15
theorem sc_all_sets : FnScope ["nails", "sets", "nail"] ["nails"] (defScope s_all_sets) := ⟨rfl, rfl, rfl, by decide +kernel, rfl, by decide +kernel, by decide +kernel⟩
theorem ok_all_sets (D : Def K mg "all_sets" s_all_sets ["nails"]) (B : Bn mg)  : Own P w K mg base 1 "all_sets" ["nails"] (spP K fn_all_sets) := by
  delta fn_all_sets
  refine ownP (g := g_all_sets) D sc_all_sets rfl rfl (by decide) fun f cdv A outer s H E hr => ?_
  delta g_all_sets
  exact (xss_cons (xs_set 1 sc_all_sets.nd (xe_lst (xd_cons xe_str xd_nil)))
  (xss_cons (xs_for PassesOwn.never (by rfl) (xi_any (xe_var 0)) (by delta t_all_sets_L0; exact (xg_name 2 sc_all_sets.nd))
  (by delta g_all_sets_L0; exact (xss_one (xs_set 1 sc_all_sets.nd (xe_add (xe_var 1) (xe_comp0 (N := ["chosen", "nail"]) (js := [none, some 2]) compOpen (by rfl) (xi_any (xe_var 1)) (fun _ _ _ _ => (by delta t_all_sets_C1; exact (xg_name 0 (show (["chosen", "nail"] : List Str).Nodup by decide +kernel)))) (fun _ _ _ _ => (by delta e_all_sets_C1; exact (xe_add (xe_var 0) (xe_var 1))))))))))
  (xss_one (xs_ret (xe_var 1)))))
noncomputable abbrev s_check_many : Stmt := top 16
theorem sc_check_many : FnScope ["nails"] ["nails"] (defScope s_check_many) := ⟨rfl, rfl, rfl, by decide +kernel, rfl, by decide +kernel, by decide +kernel⟩
theorem ok_check_many (D : Def K mg "check_many" s_check_many ["nails"]) (B : Bn mg) {t_MOST_NAILS : Tok} (G_MOST_NAILS : mg "MOST_NAILS" = some (.int 10 t_MOST_NAILS)) : Own P w K mg base 1 "check_many" ["nails"] (spP K fn_check_many) := by
  delta fn_check_many
  refine ownP (g := g_check_many) D sc_check_many rfl rfl (by decide) fun f cdv A outer s H E hr => ?_
  delta g_check_many
  exact (xss_one (xs_if (xt_cm .gt (xe_len (by rfl) (by exact B.len) (xa_cons (xe_var 0) xa_nil)) (xe_gint (by rfl) (by exact G_MOST_NAILS)))
  (xss_one xs_never)
  xss_nil))
noncomputable abbrev s_nails_among : Stmt := top 17
theorem sc_nails_among : FnScope ["sets"] ["sets"] (defScope s_nails_among) := ⟨rfl, rfl, rfl, by decide +kernel, rfl, by decide +kernel, by decide +kernel⟩
theorem ok_nails_among (D : Def K mg "nails_among" s_nails_among ["sets"]) (B : Bn mg) (D_set_of : Own P w K mg base 2 "set_of" ["nails"] (spP K fn_set_of)) : Own P w K mg base 3 "nails_among" ["sets"] (spP K fn_nails_among) := by
  delta fn_nails_among
  refine ownP (g := g_nails_among) D sc_nails_among rfl rfl (by decide) fun f cdv A outer s H E hr => ?_
  delta g_nails_among
  exact (xss_one (xs_ret (xe_own D_set_of (hr.mono (by decide)) (by rfl) (xa_cons (xe_join (xe_var 0)) xa_nil))))
noncomputable abbrev s_breaks : Stmt := top 19
theorem sc_breaks : FnScope ["rule", "nails"] ["rule", "nails"] (defScope s_breaks) := ⟨rfl, rfl, rfl, by decide +kernel, rfl, by decide +kernel, by decide +kernel⟩
theorem ok_breaks (D : Def K mg "breaks" s_breaks ["rule", "nails"]) (B : Bn mg) (D_bits_of : Own P w K mg base 1 "bits_of" ["nails"] (spP K fn_bits_of)) (D_set_of : Own P w K mg base 2 "set_of" ["nails"] (spP K fn_set_of)) (D_has_part_among : Own P w K mg base 1 "has_part_among" ["bits", "parts"] (spP K fn_has_part_among)) : Own P w K mg base 3 "breaks" ["rule", "nails"] (spP K fn_breaks) := by
  delta fn_breaks
  refine ownP (g := g_breaks) D sc_breaks rfl rfl (by decide) fun f cdv A outer s H E hr => ?_
  delta g_breaks
  exact (xss_one (xs_ret (xe_own D_has_part_among (hr.mono (by decide)) (by rfl) (xa_cons (xe_own D_bits_of (hr.mono (by decide)) (by rfl) (xa_cons (xe_own D_set_of (hr.mono (by decide)) (by rfl) (xa_cons (xe_var 1) xa_nil)) xa_nil)) (xa_cons (xe_comp0 (N := ["chosen"]) (js := [none]) compClosed (by rfl) (xi_any (xe_var 0)) (fun _ _ _ _ => (by delta t_breaks_C0; exact (xg_name 0 (show (["chosen"] : List Str).Nodup by decide +kernel)))) (fun _ _ _ _ => (by delta e_breaks_C0; exact (xe_own D_bits_of (hr.mono (by decide)) (by rfl) (xa_cons (xe_var 0) xa_nil))))) xa_nil)))))
noncomputable abbrev s_both_rules : Stmt := top 20
theorem sc_both_rules : FnScope ["rule", "second", "nails", "first_parts", "second_parts", "broken"] ["rule", "second"] (defScope s_both_rules) := ⟨rfl, rfl, rfl, by decide +kernel, rfl, by decide +kernel, by decide +kernel⟩
theorem ok_both_rules (D : Def K mg "both_rules" s_both_rules ["rule", "second"]) (B : Bn mg) (D_nails_among : Own P w K mg base 3 "nails_among" ["sets"] (spP K fn_nails_among)) (D_check_many : Own P w K mg base 1 "check_many" ["nails"] (spP K fn_check_many)) (D_bits_of : Own P w K mg base 1 "bits_of" ["nails"] (spP K fn_bits_of)) (D_all_sets : Own P w K mg base 1 "all_sets" ["nails"] (spP K fn_all_sets)) (D_has_part_among : Own P w K mg base 1 "has_part_among" ["bits", "parts"] (spP K fn_has_part_among)) (D_least_of : Own P w K mg base 2 "least_of" ["sets"] (spP K fn_least_of)) : Own P w K mg base 4 "both_rules" ["rule", "second"] (spP K fn_both_rules) := by
  delta fn_both_rules
  refine ownP (g := g_both_rules) D sc_both_rules rfl rfl (by decide) fun f cdv A outer s H E hr => ?_
  delta g_both_rules
  exact (xss_cons (xs_set 2 sc_both_rules.nd (xe_own D_nails_among (hr.mono (by decide)) (by rfl) (xa_cons (xe_add (xe_var 0) (xe_var 1)) xa_nil)))
  (xss_cons (xs_expr (xe_own D_check_many (hr.mono (by decide)) (by rfl) (xa_cons (xe_var 2) xa_nil)))
  (xss_cons (xs_set 3 sc_both_rules.nd (xe_comp0 (N := ["chosen"]) (js := [none]) compClosed (by rfl) (xi_any (xe_var 0)) (fun _ _ _ _ => (by delta t_both_rules_C0; exact (xg_name 0 (show (["chosen"] : List Str).Nodup by decide +kernel)))) (fun _ _ _ _ => (by delta e_both_rules_C0; exact (xe_own D_bits_of (hr.mono (by decide)) (by rfl) (xa_cons (xe_var 0) xa_nil))))))
  (xss_cons (xs_set 4 sc_both_rules.nd (xe_comp0 (N := ["chosen"]) (js := [none]) compClosed (by rfl) (xi_any (xe_var 1)) (fun _ _ _ _ => (by delta t_both_rules_C1; exact (xg_name 0 (show (["chosen"] : List Str).Nodup by decide +kernel)))) (fun _ _ _ _ => (by delta e_both_rules_C1; exact (xe_own D_bits_of (hr.mono (by decide)) (by rfl) (xa_cons (xe_var 0) xa_nil))))))
  (xss_cons (xs_setC1 5 sc_both_rules.nd (N := ["chosen", "first_parts"]) (js := [none, some 3]) compOpen (by rfl) (xi_any (xe_own D_all_sets (hr.mono (by decide)) (by rfl) (xa_cons (xe_var 2) xa_nil))) (fun _ _ _ _ => (by delta t_both_rules_C2; exact (xg_name 0 (show (["chosen", "first_parts"] : List Str).Nodup by decide +kernel)))) (fun _ _ _ _ => (by delta c_both_rules_C2; exact (xt_tru (xe_own D_has_part_among (hr.mono (by decide)) (by rfl) (xa_cons (xe_own D_bits_of (hr.mono (by decide)) (by rfl) (xa_cons (xe_var 0) xa_nil)) (xa_cons (xe_var 1) xa_nil)))))) (fun _ _ _ _ => (by delta e_both_rules_C2; exact (xe_var 0))))
  (xss_one (xs_ret (xe_own D_least_of (hr.mono (by decide)) (by rfl) (xa_cons (xe_comp1 (N := ["chosen", "second_parts"]) (js := [none, some 4]) compOpen (by rfl) (xi_any (xe_var 5)) (fun _ _ _ _ => (by delta t_both_rules_C3; exact (xg_name 0 (show (["chosen", "second_parts"] : List Str).Nodup by decide +kernel)))) (fun _ _ _ _ => (by delta c_both_rules_C3; exact (xt_tru (xe_own D_has_part_among (hr.mono (by decide)) (by rfl) (xa_cons (xe_own D_bits_of (hr.mono (by decide)) (by rfl) (xa_cons (xe_var 0) xa_nil)) (xa_cons (xe_var 1) xa_nil)))))) (fun _ _ _ _ => (by delta e_both_rules_C3; exact (xe_var 0)))) xa_nil)))))))))
noncomputable abbrev s_either_rule : Stmt := top 21
theorem sc_either_rule : FnScope ["rule", "second"] ["rule", "second"] (defScope s_either_rule) := ⟨rfl, rfl, rfl, by decide +kernel, rfl, by decide +kernel, by decide +kernel⟩
theorem ok_either_rule (D : Def K mg "either_rule" s_either_rule ["rule", "second"]) (B : Bn mg) (D_nails_among : Own P w K mg base 3 "nails_among" ["sets"] (spP K fn_nails_among)) (D_check_many : Own P w K mg base 1 "check_many" ["nails"] (spP K fn_check_many)) (D_least_of : Own P w K mg base 2 "least_of" ["sets"] (spP K fn_least_of)) : Own P w K mg base 4 "either_rule" ["rule", "second"] (spP K fn_either_rule) := by
  delta fn_either_rule
  refine ownP (g := g_either_rule) D sc_either_rule rfl rfl (by decide) fun f cdv A outer s H E hr => ?_
  delta g_either_rule
  exact (xss_cons (xs_expr (xe_own D_check_many (hr.mono (by decide)) (by rfl) (xa_cons (xe_own D_nails_among (hr.mono (by decide)) (by rfl) (xa_cons (xe_add (xe_var 0) (xe_var 1)) xa_nil)) xa_nil)))
  (xss_one (xs_ret (xe_own D_least_of (hr.mono (by decide)) (by rfl) (xa_cons (xe_add (xe_var 0) (xe_var 1)) xa_nil)))))
noncomputable abbrev s_law_at : Stmt := top 23
theorem sc_law_at : FnScope ["_law_script", "_law_k"] ["_law_script", "_law_k"] (defScope s_law_at) := ⟨rfl, rfl, rfl, by decide +kernel, rfl, by decide +kernel, by decide +kernel⟩
theorem ok_law_at (D : Def K mg "_law_at" s_law_at ["_law_script", "_law_k"]) (B : Bn mg)  : Own P w K mg base 1 "_law_at" ["_law_script", "_law_k"] (spP K fn_law_at) := by
  delta fn_law_at
  refine ownP (g := g_law_at) D sc_law_at rfl rfl (by decide) fun f cdv A outer s H E hr => ?_
  delta g_law_at
  exact (xss_cons (xs_if (xt_cm .lt (xe_var 1) (xe_len (by rfl) (by exact B.len) (xa_cons (xe_var 0) xa_nil)))
  (xss_one (xs_ret (xe_ix (xe_var 0) (xe_var 1))))
  xss_nil)
  (xss_one (xs_ret xe_int)))
noncomputable abbrev s_law_stir : Stmt := top 24
theorem sc_law_stir : FnScope ["_law_cell", "_law_k", "_law_value"] ["_law_cell", "_law_k"] (defScope s_law_stir) := ⟨rfl, rfl, rfl, by decide +kernel, rfl, by decide +kernel, by decide +kernel⟩
theorem ok_law_stir (D : Def K mg "_law_stir" s_law_stir ["_law_cell", "_law_k"]) (B : Bn mg)  : Own P w K mg base 1 "_law_stir" ["_law_cell", "_law_k"] (spP K fn_law_stir) := by
  delta fn_law_stir
  refine ownP (g := g_law_stir) D sc_law_stir rfl rfl (by decide) fun f cdv A outer s H E hr => ?_
  delta g_law_stir
  exact (xss_cons (xs_set 2 sc_law_stir.nd (xe_mod (xe_add (xe_add (xe_add (xe_mod (xe_var 0) xe_int) (xe_mul xe_int (xe_var 1))) (xe_mul (xe_var 1) (xe_var 1))) xe_int) xe_int))
  (xss_cons (xs_set 2 sc_law_stir.nd (xe_mod (xe_mul (xe_var 2) (xe_var 2)) xe_int))
  (xss_one (xs_ret (xe_fdiv (xe_mod (xe_add (xe_mul (xe_var 2) xe_int) (xe_mul xe_int (xe_var 1))) xe_int) xe_int)))))
noncomputable abbrev s_law_nails : Stmt := top 25
theorem sc_law_nails : FnScope ["_law_cell", "_law_many", "_law_letters", "_law_step"] ["_law_cell", "_law_many"] (defScope s_law_nails) := ⟨rfl, rfl, rfl, by decide +kernel, rfl, by decide +kernel, by decide +kernel⟩
theorem ok_law_nails (D : Def K mg "_law_nails" s_law_nails ["_law_cell", "_law_many"]) (B : Bn mg)  : Own P w K mg base 1 "_law_nails" ["_law_cell", "_law_many"] (spP K fn_law_nails) := by
  delta fn_law_nails
  refine ownP (g := g_law_nails) D sc_law_nails rfl rfl (by decide) fun f cdv A outer s H E hr => ?_
  refine cut_consts 1 [1, 3, 5, 7, 9, 11, 15, 17, 19, 21, 23, 25] rfl rfl fun es hes => ?_
  delta g_law_nails
  exact (xss_cons (xs_set 2 sc_law_nails.nd xe_str)
  (xss_cons (xs_set 3 sc_law_nails.nd (xe_ix (xe_lst (xd_ints hes)) (xe_mod (xe_fdiv (xe_var 0) xe_int) xe_int)))
  (xss_one (xs_ret (xe_comp0 (N := ["_law_k", "_law_letters", "_law_cell", "_law_step"]) (js := [none, some 2, some 0, some 3]) compOpen (by rfl) (xi_range1 (by rfl) (by exact B.range) (xa_cons (xe_var 1) xa_nil)) (fun _ _ _ _ => (by delta t_law_nails_C0; exact (xg_name 0 (show (["_law_k", "_law_letters", "_law_cell", "_law_step"] : List Str).Nodup by decide +kernel)))) (fun _ _ _ _ => (by delta e_law_nails_C0; exact (xe_ix (xe_var 1) (xe_mod (xe_add (xe_var 2) (xe_mul (xe_var 0) (xe_var 3))) xe_int)))))))))
noncomputable abbrev s_law_by_size : Stmt := top 26
theorem sc_law_by_size : FnScope ["_law_one"] ["_law_one"] (defScope s_law_by_size) := ⟨rfl, rfl, rfl, by decide +kernel, rfl, by decide +kernel, by decide +kernel⟩
theorem ok_law_by_size (D : Def K mg "_law_by_size" s_law_by_size ["_law_one"]) (B : Bn mg)  : Own P w K mg base 1 "_law_by_size" ["_law_one"] (spP K fn_law_by_size) := by
  delta fn_law_by_size
  refine ownP (g := g_law_by_size) D sc_law_by_size rfl rfl (by decide) fun f cdv A outer s H E hr => ?_
  delta g_law_by_size
  exact (xss_one (xs_ret (xe_norm (xe_tupM (xm_cons (xe_len (by rfl) (by exact B.len) (xa_cons (xe_var 0) xa_nil)) (xm_cons (xe_var 0) xm_nil))))))
noncomputable abbrev s_law_set : Stmt := top 27
theorem sc_law_set : FnScope ["_law_mask", "_law_some"] ["_law_mask", "_law_some"] (defScope s_law_set) := ⟨rfl, rfl, rfl, by decide +kernel, rfl, by decide +kernel, by decide +kernel⟩
theorem ok_law_set (D : Def K mg "_law_set" s_law_set ["_law_mask", "_law_some"]) (B : Bn mg)  : Own P w K mg base 1 "_law_set" ["_law_mask", "_law_some"] (spP K fn_law_set) := by
  delta fn_law_set
  refine ownP (g := g_law_set) D sc_law_set rfl rfl (by decide) fun f cdv A outer s H E hr => ?_
  delta g_law_set
  exact (xss_one (xs_ret (xe_join (xe_comp1 (N := ["_law_k", "_law_some", "_law_mask"]) (js := [none, some 1, some 0]) compOpen (by rfl) (xi_range1 (by rfl) (by exact B.range) (xa_cons (xe_len (by rfl) (by exact B.len) (xa_cons (xe_var 1) xa_nil)) xa_nil)) (fun _ _ _ _ => (by delta t_law_set_C0; exact (xg_name 0 (show (["_law_k", "_law_some", "_law_mask"] : List Str).Nodup by decide +kernel)))) (fun _ _ _ _ => (by delta c_law_set_C0; exact (xt_eq hr.units (xe_band (xe_shr (xe_var 2) (xe_var 0)) xe_int) xe_int))) (fun _ _ _ _ => (by delta e_law_set_C0; exact (xe_ix (xe_var 1) (xe_var 0))))))))
noncomputable abbrev s_law_least : Stmt := top 28
theorem sc_law_least : FnScope ["_law_masks_here", "_law_found", "_law_one", "_law_smaller"] ["_law_masks_here"] (defScope s_law_least) := ⟨rfl, rfl, rfl, by decide +kernel, rfl, by decide +kernel, by decide +kernel⟩
theorem ok_law_least (D : Def K mg "_law_least" s_law_least ["_law_masks_here"]) (B : Bn mg)  : Own P w K mg base 1 "_law_least" ["_law_masks_here"] (spP K fn_law_least) := by
  delta fn_law_least
  refine ownP (g := g_law_least) D sc_law_least rfl rfl (by decide) fun f cdv A outer s H E hr => ?_
  delta g_law_least
  exact (xss_cons (xs_set 1 sc_law_least.nd (xe_lst xd_nil))
  (xss_cons (xs_for PassesOwn.never (by rfl) (xi_any (xe_var 0)) (by delta t_law_least_L0; exact (xg_name 2 sc_law_least.nd))
  (by delta g_law_least_L0; exact (xss_cons (xs_setC1 3 sc_law_least.nd (N := ["_law_other", "_law_one"]) (js := [none, some 2]) compOpen (by rfl) (xi_any (xe_var 0)) (fun _ _ _ _ => (by delta t_law_least_C1; exact (xg_name 0 (show (["_law_other", "_law_one"] : List Str).Nodup by decide +kernel)))) (fun _ _ _ _ => (by delta c_law_least_C1; exact (xt_w (xw_and (xt_eq hr.units (xe_band (xe_var 0) (xe_var 1)) (xe_var 0)) (xw_and1 (xt_ne hr.units (xe_var 0) (xe_var 1))))))) (fun _ _ _ _ => (by delta e_law_least_C1; exact (xe_var 0))))
  (xss_one (xs_if (xt_w (xw_and (xt_eq hr.units (xe_var 3) (xe_lst xd_nil)) (xw_and1 (xt_nin (xe_var 2) (xe_var 1)))))
  (xss_one (xs_expr (xe_append 1 (xe_var 2))))
  xss_nil)))))
  (xss_one (xs_ret (xe_var 1)))))
noncomputable abbrev s_law_texts : Stmt := top 29
theorem sc_law_texts : FnScope ["_law_masks_here", "_law_some"] ["_law_masks_here", "_law_some"] (defScope s_law_texts) := ⟨rfl, rfl, rfl, by decide +kernel, rfl, by decide +kernel, by decide +kernel⟩
theorem ok_law_texts (D : Def K mg "_law_texts" s_law_texts ["_law_masks_here", "_law_some"]) (B : Bn mg) (D_law_set : Own P w K mg base 1 "_law_set" ["_law_mask", "_law_some"] (spP K fn_law_set)) (D_law_by_size : Def K mg "_law_by_size" s_law_by_size ["_law_one"]) : Own P w K mg base 2 "_law_texts" ["_law_masks_here", "_law_some"] (spP K fn_law_texts) := by
  delta fn_law_texts
  refine ownP (g := g_law_texts) D sc_law_texts rfl rfl (by decide) fun f cdv A outer s H E hr => ?_
  delta g_law_texts
  exact (xss_one (xs_ret (xe_sortD D_law_by_size hr (by rfl) (by exact B.sorted) (by exact B.len) (by rfl) (xe_comp0 (N := ["_law_mask", "_law_some"]) (js := [none, some 1]) compOpen (by rfl) (xi_any (xe_var 0)) (fun _ _ _ _ => (by delta t_law_texts_C0; exact (xg_name 0 (show (["_law_mask", "_law_some"] : List Str).Nodup by decide +kernel)))) (fun _ _ _ _ => (by delta e_law_texts_C0; exact (xe_own D_law_set (hr.mono (by decide)) (by rfl) (xa_cons (xe_var 0) (xa_cons (xe_var 1) xa_nil)))))))))
noncomputable abbrev s_law_masks : Stmt := top 30
theorem sc_law_masks : FnScope ["_law_script", "_law_first", "_law_many", "_law_most", "_law_masks_here", "_law_cell", "_law_rest", "_law_k", "_law_mask"] ["_law_script", "_law_first", "_law_many", "_law_most"] (defScope s_law_masks) := ⟨rfl, rfl, rfl, by decide +kernel, rfl, by decide +kernel, by decide +kernel⟩
theorem ok_law_masks (D : Def K mg "_law_masks" s_law_masks ["_law_script", "_law_first", "_law_many", "_law_most"]) (B : Bn mg) (D_law_at : Own P w K mg base 1 "_law_at" ["_law_script", "_law_k"] (spP K fn_law_at)) (D_law_stir : Own P w K mg base 1 "_law_stir" ["_law_cell", "_law_k"] (spP K fn_law_stir)) : Own P w K mg base 2 "_law_masks" ["_law_script", "_law_first", "_law_many", "_law_most"] (spP K fn_law_masks) := by
  delta fn_law_masks
  refine ownP (g := g_law_masks) D sc_law_masks rfl rfl (by decide) fun f cdv A outer s H E hr => ?_
  delta g_law_masks
  exact (xss_cons (xs_set 4 sc_law_masks.nd (xe_lst xd_nil))
  (xss_cons (xs_set 5 sc_law_masks.nd (xe_own D_law_at (hr.mono (by decide)) (by rfl) (xa_cons (xe_var 0) (xa_cons (xe_var 1) xa_nil))))
  (xss_cons (xs_set 6 sc_law_masks.nd (xe_fdiv (xe_var 5) (xe_mul xe_int (xe_var 3))))
  (xss_cons (xs_for PassesOwn.never (by rfl) (xi_range1 (by rfl) (by exact B.range) (xa_cons (xe_add xe_int (xe_mod (xe_fdiv (xe_var 5) xe_int) (xe_var 3))) xa_nil)) (by delta t_law_masks_L0; exact (xg_name 7 sc_law_masks.nd))
  (by delta g_law_masks_L0; exact (xss_cons (xs_if (xt_not (xt_ch .lt .lt (xe_neg (xe_pow xe_int xe_int)) (xe_var 5) (xe_pow xe_int xe_int)))
  (xss_cons (xs_set 8 sc_law_masks.nd (xe_add xe_int (xe_mod (xe_var 6) (xe_sub (xe_shl xe_int (xe_var 2)) xe_int))))
  (xss_one (xs_set 6 sc_law_masks.nd (xe_fdiv (xe_var 6) (xe_sub (xe_shl xe_int (xe_var 2)) xe_int)))))
  (xss_one (xs_set 8 sc_law_masks.nd (xe_add xe_int (xe_mod (xe_own D_law_stir (hr.mono (by decide)) (by rfl) (xa_cons (xe_add (xe_own D_law_at (hr.mono (by decide)) (by rfl) (xa_cons (xe_var 0) (xa_cons (xe_add (xe_add (xe_var 1) xe_int) (xe_mod (xe_var 7) xe_int)) xa_nil))) (xe_var 7)) (xa_cons (xe_var 7) xa_nil))) (xe_sub (xe_shl xe_int (xe_var 2)) xe_int))))))
  (xss_one (xs_expr (xe_append 4 (xe_var 8)))))))
  (xss_one (xs_ret (xe_var 4)))))))
noncomputable abbrev s_law_breaks : Stmt := top 31
theorem sc_law_breaks : FnScope ["_law_masks_here", "_law_out"] ["_law_masks_here", "_law_out"] (defScope s_law_breaks) := ⟨rfl, rfl, rfl, by decide +kernel, rfl, by decide +kernel, by decide +kernel⟩
theorem ok_law_breaks (D : Def K mg "_law_breaks" s_law_breaks ["_law_masks_here", "_law_out"]) (B : Bn mg)  : Own P w K mg base 1 "_law_breaks" ["_law_masks_here", "_law_out"] (spP K fn_law_breaks) := by
  delta fn_law_breaks
  refine ownP (g := g_law_breaks) D sc_law_breaks rfl rfl (by decide) fun f cdv A outer s H E hr => ?_
  delta g_law_breaks
  exact (xss_one (xs_ret (xe_any (by rfl) (by rfl) (by exact B.any) (xa_cons (xe_comp0 (N := ["_law_one", "_law_out"]) (js := [none, some 1]) compOpen (by rfl) (xi_any (xe_var 0)) (fun _ _ _ _ => (by delta t_law_breaks_C0; exact (xg_name 0 (show (["_law_one", "_law_out"] : List Str).Nodup by decide +kernel)))) (fun _ _ _ _ => (by delta e_law_breaks_C0; exact (xe_eq hr.units (xe_band (xe_var 0) (xe_var 1)) (xe_var 0))))) xa_nil))))
noncomputable abbrev s_law_told : Stmt := top 32
theorem sc_law_told : FnScope ["_law_found", "_law_due", "_law_one", "_law_other"] ["_law_found", "_law_due"] (defScope s_law_told) := ⟨rfl, rfl, rfl, by decide +kernel, rfl, by decide +kernel, by decide +kernel⟩
theorem ok_law_told (D : Def K mg "_law_told" s_law_told ["_law_found", "_law_due"]) (B : Bn mg)  : Own P w K mg base 1 "_law_told" ["_law_found", "_law_due"] (spP K fn_law_told) := by
  delta fn_law_told
  refine ownP (g := g_law_told) D sc_law_told rfl rfl (by decide) fun f cdv A outer s H E hr => ?_
  delta g_law_told
  exact (xss_cons (xs_if (xt_w (xw_or (xt_not (xt_tru (xe_isi .list (by rfl) (by exact B.isinstance) (xe_var 0) (by rfl) (by exact B.list) PyProof.Rows.boot_list))) (xw_or1 (xt_ne hr.units (xe_len (by rfl) (by exact B.len) (xa_cons (xe_var 0) xa_nil)) (xe_len (by rfl) (by exact B.len) (xa_cons (xe_var 1) xa_nil))))))
  (xss_one (xs_ret xe_bl))
  xss_nil)
  (xss_cons (xs_for PassesOwn.never (by rfl) (xi_zip (by rfl) (by exact B.zip) (xe_var 0) (xe_var 1)) (by delta t_law_told_L0; exact (xg_tup (by rfl) (xgs_cons (xg_name 2 sc_law_told.nd) (xgs_cons (xg_name 3 sc_law_told.nd) xgs_nil))))
  (by delta g_law_told_L0; exact (xss_one (xs_if (xt_w (xw_or (xt_not (xt_tru (xe_isi .str (by rfl) (by exact B.isinstance) (xe_var 2) (by rfl) (by exact B.str) PyProof.Rows.boot_str))) (xw_or1 (xt_ne hr.units (xe_var 2) (xe_var 3)))))
  (xss_one (xs_ret xe_bl))
  xss_nil))))
  (xss_one (xs_ret xe_bl))))
noncomputable abbrev s_law : Stmt := top 33
theorem sc_law : FnScope ["_law_script", "_law_some", "_law_first", "_law_second", "_law_one", "_law_other", "_law_handed", "_law_more", "_law_both", "_law_either", "_law_out", "_law_text", "_law_rule", "_law_masks_here", "_law_found", "_law_due"] ["_law_script"] (defScope s_law) := ⟨rfl, rfl, rfl, by decide +kernel, rfl, by decide +kernel, by decide +kernel⟩
theorem ok_law {f0 : Addr} {fd : FuncData} (D : Fun K "law" "law" s_law f0 fd) (B : Bn mg) (D_law_at : Own P w K mg base 1 "_law_at" ["_law_script", "_law_k"] (spP K fn_law_at)) (D_law_nails : Own P w K mg base 1 "_law_nails" ["_law_cell", "_law_many"] (spP K fn_law_nails)) (D_law_masks : Own P w K mg base 2 "_law_masks" ["_law_script", "_law_first", "_law_many", "_law_most"] (spP K fn_law_masks)) (D_law_least : Own P w K mg base 1 "_law_least" ["_law_masks_here"] (spP K fn_law_least)) (D_law_texts : Own P w K mg base 2 "_law_texts" ["_law_masks_here", "_law_some"] (spP K fn_law_texts)) (D_law_set : Own P w K mg base 1 "_law_set" ["_law_mask", "_law_some"] (spP K fn_law_set)) (D_breaks : Own P w K mg base 3 "breaks" ["rule", "nails"] (spP K fn_breaks)) (D_law_breaks : Own P w K mg base 1 "_law_breaks" ["_law_masks_here", "_law_out"] (spP K fn_law_breaks)) (D_both_rules : Own P w K mg base 4 "both_rules" ["rule", "second"] (spP K fn_both_rules)) (D_law_told : Own P w K mg base 1 "_law_told" ["_law_found", "_law_due"] (spP K fn_law_told)) (D_either_rule : Own P w K mg base 4 "either_rule" ["rule", "second"] (spP K fn_either_rule)) : FnOk P w K mg base CX0 5 f0 fd ["_law_script"] (spP K fn_law) := by
  delta fn_law
  refine fnP (g := g_law) D sc_law rfl rfl (by decide) fun cdv A outer s H E hr => ?_
  delta g_law
  exact (xss_cons (xs_set 1 sc_law.nd (xe_sorted (by rfl) (by exact B.sorted) (xe_own D_law_nails (hr.mono (by decide)) (by rfl) (xa_cons (xe_own D_law_at (hr.mono (by decide)) (by rfl) (xa_cons (xe_var 0) (xa_cons xe_int xa_nil))) (xa_cons (xe_add xe_int (xe_mod (xe_own D_law_at (hr.mono (by decide)) (by rfl) (xa_cons (xe_var 0) (xa_cons xe_int xa_nil))) xe_int)) xa_nil)))))
  (xss_cons (xs_set 2 sc_law.nd (xe_own D_law_least (hr.mono (by decide)) (by rfl) (xa_cons (xe_own D_law_masks (hr.mono (by decide)) (by rfl) (xa_cons (xe_var 0) (xa_cons xe_int (xa_cons (xe_len (by rfl) (by exact B.len) (xa_cons (xe_var 1) xa_nil)) (xa_cons xe_int xa_nil))))) xa_nil)))
  (xss_cons (xs_set 3 sc_law.nd (xe_own D_law_least (hr.mono (by decide)) (by rfl) (xa_cons (xe_own D_law_masks (hr.mono (by decide)) (by rfl) (xa_cons (xe_var 0) (xa_cons xe_int (xa_cons (xe_len (by rfl) (by exact B.len) (xa_cons (xe_var 1) xa_nil)) (xa_cons xe_int xa_nil))))) xa_nil)))
  (xss_cons (xs_set 4 sc_law.nd (xe_own D_law_texts (hr.mono (by decide)) (by rfl) (xa_cons (xe_var 2) (xa_cons (xe_var 1) xa_nil))))
  (xss_cons (xs_set 5 sc_law.nd (xe_own D_law_texts (hr.mono (by decide)) (by rfl) (xa_cons (xe_var 3) (xa_cons (xe_var 1) xa_nil))))
  (xss_cons (xs_set 6 sc_law.nd (xe_lst (xd_cons (xe_list (by rfl) (by exact B.list) (xe_var 4)) (xd_cons (xe_list (by rfl) (by exact B.list) (xe_var 5)) xd_nil))))
  (xss_cons (xs_set 7 sc_law.nd (xe_ix (xe_own D_law_nails (hr.mono (by decide)) (by rfl) (xa_cons (xe_own D_law_at (hr.mono (by decide)) (by rfl) (xa_cons (xe_var 0) (xa_cons xe_int xa_nil))) (xa_cons xe_int xa_nil))) (xe_neg xe_int)))
  (xss_cons (xs_set 8 sc_law.nd (xe_lst xd_nil))
  (xss_cons (xs_set 9 sc_law.nd (xe_lst xd_nil))
  (xss_cons (xs_for PassesOwn.never (by rfl) (xi_range1 (by rfl) (by exact B.range) (xa_cons (xe_shl xe_int (xe_len (by rfl) (by exact B.len) (xa_cons (xe_var 1) xa_nil))) xa_nil)) (by delta t_law_L0; exact (xg_name 10 sc_law.nd))
  (by delta g_law_L0; exact (xss_cons (xs_set 11 sc_law.nd (xe_add (xe_own D_law_set (hr.mono (by decide)) (by rfl) (xa_cons (xe_var 10) (xa_cons (xe_var 1) xa_nil))) (xe_mulS (xe_var 7) (xe_mod (xe_var 10) xe_int))))
  (xss_cons (xs_for PassesOwn.never (by rfl) (xi_any (xe_lst (xd_cons (xe_tup (xd_cons (xe_ix (xe_var 6) xe_int) (xd_cons (xe_var 2) xd_nil))) (xd_cons (xe_tup (xd_cons (xe_ix (xe_var 6) xe_int) (xd_cons (xe_var 3) xd_nil))) xd_nil)))) (by delta t_law_L1; exact (xg_tup (by rfl) (xgs_cons (xg_name 12 sc_law.nd) (xgs_cons (xg_name 13 sc_law.nd) xgs_nil))))
  (by delta g_law_L1; exact (xss_cons (xs_set 14 sc_law.nd (xe_own D_breaks (hr.mono (by decide)) (by rfl) (xa_cons (xe_var 12) (xa_cons (xe_var 11) xa_nil))))
  (xss_one (xs_if (xt_w (xw_or (xt_not (xt_tru (xe_isi .bool (by rfl) (by exact B.isinstance) (xe_var 14) (by rfl) (by exact B.bool) PyProof.Rows.boot_bool))) (xw_or1 (xt_ne hr.units (xe_var 14) (xe_own D_law_breaks (hr.mono (by decide)) (by rfl) (xa_cons (xe_var 13) (xa_cons (xe_var 10) xa_nil)))))))
  (xss_one (xs_ret xe_bl))
  xss_nil)))))
  (xss_cons (xs_if (xt_w (xw_and (xt_tru (xe_own D_law_breaks (hr.mono (by decide)) (by rfl) (xa_cons (xe_var 2) (xa_cons (xe_var 10) xa_nil)))) (xw_and1 (xt_tru (xe_own D_law_breaks (hr.mono (by decide)) (by rfl) (xa_cons (xe_var 3) (xa_cons (xe_var 10) xa_nil)))))))
  (xss_one (xs_expr (xe_append 8 (xe_var 10))))
  xss_nil)
  (xss_one (xs_if (xt_w (xw_or (xt_tru (xe_own D_law_breaks (hr.mono (by decide)) (by rfl) (xa_cons (xe_var 2) (xa_cons (xe_var 10) xa_nil)))) (xw_or1 (xt_tru (xe_own D_law_breaks (hr.mono (by decide)) (by rfl) (xa_cons (xe_var 3) (xa_cons (xe_var 10) xa_nil)))))))
  (xss_one (xs_expr (xe_append 9 (xe_var 10))))
  xss_nil)))))))
  (xss_cons (xs_set 15 sc_law.nd (xe_lst (xd_cons (xe_own D_law_texts (hr.mono (by decide)) (by rfl) (xa_cons (xe_own D_law_least (hr.mono (by decide)) (by rfl) (xa_cons (xe_var 8) xa_nil)) (xa_cons (xe_var 1) xa_nil))) (xd_cons (xe_own D_law_texts (hr.mono (by decide)) (by rfl) (xa_cons (xe_own D_law_least (hr.mono (by decide)) (by rfl) (xa_cons (xe_var 9) xa_nil)) (xa_cons (xe_var 1) xa_nil))) xd_nil))))
  (xss_cons (xs_set 14 sc_law.nd (xe_own D_both_rules (hr.mono (by decide)) (by rfl) (xa_cons (xe_ix (xe_var 6) xe_int) (xa_cons (xe_ix (xe_var 6) xe_int) xa_nil))))
  (xss_cons (xs_if (xt_w (xw_or (xt_not (xt_tru (xe_own D_law_told (hr.mono (by decide)) (by rfl) (xa_cons (xe_var 14) (xa_cons (xe_ix (xe_var 15) xe_int) xa_nil))))) (xw_or1 (xt_not (xt_tru (xe_own D_law_told (hr.mono (by decide)) (by rfl) (xa_cons (xe_own D_either_rule (hr.mono (by decide)) (by rfl) (xa_cons (xe_ix (xe_var 6) xe_int) (xa_cons (xe_ix (xe_var 6) xe_int) xa_nil))) (xa_cons (xe_ix (xe_var 15) xe_int) xa_nil))))))))
  (xss_one (xs_ret xe_bl))
  xss_nil)
  (xss_cons (xs_expr (xe_append 14 xe_str))
  (xss_cons (xs_expr (xe_appT (xe_own D_either_rule (hr.mono (by decide)) (by rfl) (xa_cons (xe_ix (xe_var 6) xe_int) (xa_cons (xe_ix (xe_var 6) xe_int) xa_nil)))))
  (xss_cons (xs_if (xt_ne hr.units (xe_var 6) (xe_lst (xd_cons (xe_var 4) (xd_cons (xe_var 5) xd_nil))))
  (xss_one (xs_ret xe_bl))
  xss_nil)
  (xss_one (xs_ret (xe_and (xe_own D_law_told (hr.mono (by decide)) (by rfl) (xa_cons (xe_own D_both_rules (hr.mono (by decide)) (by rfl) (xa_cons (xe_ix (xe_var 6) xe_int) (xa_cons (xe_ix (xe_var 6) xe_int) xa_nil))) (xa_cons (xe_ix (xe_var 15) xe_int) xa_nil))) (xe_one (xe_own D_law_told (hr.mono (by decide)) (by rfl) (xa_cons (xe_own D_either_rule (hr.mono (by decide)) (by rfl) (xa_cons (xe_ix (xe_var 6) xe_int) (xa_cons (xe_ix (xe_var 6) xe_int) xa_nil))) (xa_cons (xe_ix (xe_var 15) xe_int) xa_nil)))))))))))))))))))))))
end
end Nhk42
namespace Nhk42
open PySem L2 Nh PL
theorem seq_nx {f g : PSv} {E E1 : List Sl} (h : f E = some (E1, .nx)) : pSeq f g E = g E1 := by
  unfold pSeq
  rw [h]
  rfl
theorem if_no {c : PTv} {a b : PSv} {E E1 : List Sl} {r : Option (List Sl × Fl)} (h : c E = some (false, E1)) (k : b E1 = r) : pIfS c a b E = r := by
  unfold pIfS
  rw [h, ← k]
  rfl
theorem if_yes {c : PTv} {a b : PSv} {E E1 : List Sl} {r : Option (List Sl × Fl)} (h : c E = some (true, E1)) (k : a E1 = r) : pIfS c a b E = r := by
  unfold pIfS
  rw [h, ← k]
  rfl
theorem cl_cons {tg : PGv} {elt : PEv} {d r : PyData} {ds rs : List PyData} {E E1 : List Sl} (t : tg d E = some E1) (el : elt E1 = some (.sh r, E1)) (h : cLoop tg tYesP elt ds E1 = some rs) : cLoop tg tYesP elt (d :: ds) E = some (r :: rs) := by
  rw [cLoop, t, Option.bind_some]
  simp only [tYesP, Option.bind_some, el, frz, h, Option.map_some, if_true]
theorem stir_ok (cell k : Int) (a : ∀ i : Int, okMul i k = true) (b : ∀ i j : Int, okMul (i % 2147483629) j = true) (c : ∀ i j : Int, okMul (i % 2147483587) j = true) : ∃ z : Int, fn_law_stir [.int cell, .int k] = some (.sh (.int z)) := by
  have d1 : okDiv 13 = true := by decide
  simp only [fn_law_stir, fnB, List.length_cons, List.length_nil, Nat.zero_add, Nat.reduceAdd, runB, g_law_stir, pSeq, pSet, pBin, pVar, startE, List.map_cons, List.map_nil, Nat.reduceSub, List.replicate, List.cons_append, List.nil_append, List.getElem?_cons_zero, Sl.isBr, Bool.false_and, Bool.false_eq_true, pC, pMod, sc2, look, Sl.val, iOp, Option.bind_some, if_false, Int.reduceLT, decide_true, if_true, Option.map_some, pMul, hot, hot1, Bool.not_false, Bool.true_or, Bool.and_true, pAdd, List.getElem?_cons_succ, a, PL.settle, frz, frzAll, Nat.reduceLT, List.set_cons_succ, List.set_cons_zero, pRet, pFdiv, b, c, d1, outS, Clean, flat]
  exact ⟨_, rfl⟩
theorem pv_law_stir (cell k : Int) (h1 : -100000 ≤ k) (h2 : k ≤ 100000) : ∃ z : Int, fn_law_stir [.int cell, .int k] = some (.sh (.int z)) := by
  refine stir_ok cell k (fun i => okMul_r (by omega) (by omega)) (fun i j => ?_) (fun i j => ?_)
  · have m0 := Int.emod_nonneg i (show (2147483629 : Int) ≠ 0 by decide)
    have m1 := Int.emod_lt_of_pos i (show (0 : Int) < 2147483629 by decide)
    exact okMul_l (by omega) (by omega)
  · have m0 := Int.emod_nonneg i (show (2147483587 : Int) ≠ 0 by decide)
    have m1 := Int.emod_lt_of_pos i (show (0 : Int) < 2147483587 by decide)
    exact okMul_l (by omega) (by omega)
noncomputable def stD (a : Nat) : PyData := .str ⟨#[a]⟩
theorem flat_stD : ∀ w : List Nat, flatA (w.map stD) = true
  | [] => rfl
  | a :: w => by simp [flatA, flat, flat_stD w, stD]
theorem st_nails (cell step k : Int) (m : okMul k step = true) : e_law_nails_C0 [.sh (.int k), .sh (.str "abcdefghijklmnopqrstuvwxyz"), .sh (.int cell), .sh (.int step)] = some (.sh (stD (97 + ((cell + k * step) % 26).toNat)), [.sh (.int k), .sh (.str "abcdefghijklmnopqrstuvwxyz"), .sh (.int cell), .sh (.int step)]) := by
  simp only [e_law_nails_C0, pBin, pVar, List.getElem?_cons_succ, List.getElem?_cons_zero, Sl.isBr, Bool.false_and, Bool.false_eq_true, pMul, look, Sl.val, hot, hot1, if_false, pAdd, pC, pMod, sc2, iOp, Option.bind_some, pIx, Bool.not_false, Bool.true_or, Bool.and_true, m, if_true, Int.reduceLT, decide_true, Option.map_some, len_az, az_m, stD]
theorem st_nails2 (cell many step i : Int) (n : Nat) (ws : List PyData) (dd : okDiv 26 = true) (hi : cell / 26 % 12 = i) (hs : atI [PyData.int 1, .int 3, .int 5, .int 7, .int 9, .int 11, .int 15, .int 17, .int 19, .int 21, .int 23, .int 25] i = some (.int step)) (o1 : -1000000 ≤ many) (o2 : many ≤ 1000000) (hn : many.toNat = n) (e : cLoop t_law_nails_C0 tYesP e_law_nails_C0 (rngD 0 n) [.no, .sh (.str "abcdefghijklmnopqrstuvwxyz"), .sh (.int cell), .sh (.int step)] = some ws) (fl : flatA ws = true) (ll : ws.length ≤ 1000000) : fn_law_nails [.int cell, .int many] = some (.ow ws) := by
  simp only [fn_law_nails, fnB, List.length_cons, List.length_nil, Nat.zero_add, Nat.reduceAdd, runB, g_law_nails, pSeq, pSet, pC, startE, List.map_cons, List.map_nil, Nat.reduceSub, List.replicate, List.cons_append, List.nil_append, PL.settle, frz, frzAll, Option.bind_some, Nat.reduceLT, List.set_cons_succ, List.set_cons_zero, if_true, pBin, pLst, dInts, Nat.reduceLeDiff, Sl.isBr, Bool.false_and, Bool.false_eq_true, pVar, pFdiv, sc2, look, Sl.val, iOp, if_false, pMod, pIx, hot, hot1, pRet, pComp, iRng1P, aCons, aNil, Option.map_some, slotsE, slotE, List.getElem?_cons_zero, dd, Int.reduceLT, decide_true, hi, hs, List.getElem?_cons_succ, lookA, o1, o2, and_self, hn, e, fl, ll, Bool.and_true, outS, Clean]
theorem step_at' : ∀ i, i < 12 → ∃ v : Int, [PyData.int 1, .int 3, .int 5, .int 7, .int 9, .int 11, .int 15, .int 17, .int 19, .int 21, .int 23, .int 25][i]? = some (.int v) ∧ 0 ≤ v ∧ v ≤ 100 ∧ ∀ d : Nat, 1 ≤ d → d < 26 → ((d : Int) * v) % 26 ≠ 0
  | 0, _ => ⟨1, rfl, by decide, by decide, by omega⟩
  | 1, _ => ⟨3, rfl, by decide, by decide, by omega⟩
  | 2, _ => ⟨5, rfl, by decide, by decide, by omega⟩
  | 3, _ => ⟨7, rfl, by decide, by decide, by omega⟩
  | 4, _ => ⟨9, rfl, by decide, by decide, by omega⟩
  | 5, _ => ⟨11, rfl, by decide, by decide, by omega⟩
  | 6, _ => ⟨15, rfl, by decide, by decide, by omega⟩
  | 7, _ => ⟨17, rfl, by decide, by decide, by omega⟩
  | 8, _ => ⟨19, rfl, by decide, by decide, by omega⟩
  | 9, _ => ⟨21, rfl, by decide, by decide, by omega⟩
  | 10, _ => ⟨23, rfl, by decide, by decide, by omega⟩
  | 11, _ => ⟨25, rfl, by decide, by decide, by omega⟩
noncomputable def nailAt (cell step : Int) (k : Nat) : Nat := 97 + ((cell + (k : Int) * step) % 26).toNat
theorem nailAt_inj {cell step : Int} (hs : ∀ d : Nat, 1 ≤ d → d < 26 → ((d : Int) * step) % 26 ≠ 0) {j k : Nat} (h : j < k) (hk : k < 26) : nailAt cell step j ≠ nailAt cell step k := by
  intro e
  unfold nailAt at e
  have m0 := Int.emod_nonneg (cell + (k : Int) * step) (show (26 : Int) ≠ 0 by decide)
  have n0 := Int.emod_nonneg (cell + (j : Int) * step) (show (26 : Int) ≠ 0 by decide)
  have e2 : (cell + (k : Int) * step) % 26 = (cell + (j : Int) * step) % 26 := by omega
  have e3 := Int.emod_eq_emod_iff_emod_sub_eq_zero.mp e2
  apply hs (k - j) (by omega) (by omega)
  rw [← e3]
  congr 1
  rw [show ((k - j : Nat) : Int) = (k : Int) - j by omega, Int.sub_mul]
  omega
theorem pc_nails' (cell step : Int) (h1 : 0 ≤ step) (h2 : step ≤ 100) : ∀ (n lo : Nat) (x : Sl), cLoop t_law_nails_C0 tYesP e_law_nails_C0 (rngD lo n) [x, .sh (.str "abcdefghijklmnopqrstuvwxyz"), .sh (.int cell), .sh (.int step)] = some (((List.range' lo n).map (nailAt cell step)).map stD)
  | 0, lo, x => rfl
  | n + 1, lo, x => by
    have e := pc_nails' cell step h1 h2 n (lo + 1) (.sh (.int lo))
    have s := st_nails cell step lo (okMul_r (by omega) (by omega))
    have t : t_law_nails_C0 (.int lo) [x, .sh (.str "abcdefghijklmnopqrstuvwxyz"), .sh (.int cell), .sh (.int step)] = some [.sh (.int lo), .sh (.str "abcdefghijklmnopqrstuvwxyz"), .sh (.int cell), .sh (.int step)] := rfl
    rw [show ((lo + 1 : Nat) : Int) = (lo : Int) + 1 by omega] at e
    rw [rngD_succ, List.range'_succ, List.map_cons, List.map_cons]
    exact cl_cons t s e
noncomputable def az (a : Nat) : Prop := 97 ≤ a ∧ a < 123
theorem az_mem {a : Nat} (h : az a) : a ∈ List.range' 97 26 := List.mem_range'_1.mpr ⟨h.1, h.2⟩
theorem nailAt_az (cell step : Int) (k : Nat) : az (nailAt cell step k) := by
  unfold nailAt az
  have m0 := Int.emod_nonneg (cell + (k : Int) * step) (show (26 : Int) ≠ 0 by decide)
  have m1 := Int.emod_lt_of_pos (cell + (k : Int) * step) (show (0 : Int) < 26 by decide)
  generalize (cell + (k : Int) * step) % 26 = z at m0 m1
  omega
theorem call_at {c : List PyData → Option Sl} {g : PAv} {E E1 : List Sl} {ss : List Sl} {ds : List PyData} {r : Sl} (h : g E = some (ss, E1)) (hl : lookA E1 ss = some ds) (hc : c ds = some r) : pCall c g E = some (r, E1) := by
  unfold pCall
  rw [h, Option.bind_some]
  show (lookA E1 ss).bind _ = _
  rw [hl, Option.bind_some, hc]
  rfl
theorem call_mul {x : Int} {f : PEv} {E : List Sl} {y : Int} {g : PEv} (hf : g E = some (.sh (.int x), E)) (h : f E = some (.sh (.int y), E)) (ok : okMul x y = true) : pBin pMul false g f E = some (.sh (.int (x * y)), E) := by
  simp only [pBin, pMul, hf, h, Option.bind_some, look, Sl.val, ok, Bool.false_and, Bool.false_eq_true, if_false, if_true]
theorem call_add {x : Int} {f : PEv} {E : List Sl} {y : Int} {g : PEv} (hf : g E = some (.sh (.int x), E)) (h : f E = some (.sh (.int y), E)) : pBin pAdd false g f E = some (.sh (.int (x + y)), E) := by
  simp only [pBin, pAdd, hf, h, Option.bind_some, look, Sl.val, Bool.false_and, Bool.false_eq_true, if_false]
theorem set_sh {f : PEv} {E E1 : List Sl} {d : PyData} {i : Nat} (h : f E = some (.sh d, E1)) (hi : i < E1.length) : pSet i f E = some (E1.set i (.sh d), .nx) := by
  unfold pSet
  rw [h]
  simp only [Option.bind_some, PL.settle, hi, if_true]
theorem bin_ne {x y : Int} {f g : PEv} {E : List Sl} (hg : g E = some (.sh (.int x), E)) (hf : f E = some (.sh (.int y), E)) : pBin pNe false g f E = some (.sh (.bool (!decide (x = y))), E) := by
  simp only [pBin, pNe, sc2, hg, hf, Option.bind_some, look, Sl.val, Bool.false_and, Bool.false_eq_true, if_false, dEq_int, Option.map_some]
theorem or_no {a b : PTv} {E E1 : List Sl} {r : Option (Bool × List Sl)} (h : a E = some (false, E1)) (k : b E1 = r) : tOrP a b E = r := by
  unfold tOrP
  rw [h, Option.bind_some]
  exact k
theorem pv_law_at (ns : List Int) (k : Nat) : fn_law_at [.list (ns.map .int), .int k] = some (.sh (.int (ns.getD k 0))) := by
  simp only [fn_law_at, fnB, List.length_cons, List.length_nil, Nat.zero_add, Nat.reduceAdd, runB, g_law_at, pSeq, pIfS, isB, pBin, pVar, startE, List.map_cons, List.map_nil, Nat.sub_self, List.replicate, List.cons_append, List.nil_append, List.getElem?_cons_succ, List.getElem?_cons_zero, Sl.isBr, Bool.false_and, Bool.false_eq_true, pCaS, aCons, aNil, Option.map_some, if_false, dLen, sc2, look, Sl.val, dCmp, Cm.i, Cm.s, Option.bind_some, lookA, pRet, pIx, hot, hot1, pNext, pC, outS, Clean, if_true]
  by_cases h : k < ns.length
  · simp [h, atI_nat', flat]
  · simp [h, List.getElem?_eq_none (Nat.le_of_not_lt h), flat]
theorem occ_one (w : List Nat) (a : Nat) : (Builtin.Str.occurrences ⟨w.toArray⟩ ⟨#[a]⟩ 0 (⟨w.toArray⟩ : Str).length 1).isEmpty = !decide (a ∈ w) := by
  have h := PySem.StrLaws.found_one ⟨w.toArray⟩ a
  rw [List.toList_toArray] at h
  rw [← h, Bool.not_not]
noncomputable def oneS (a : Nat) : Str := ⟨#[a]⟩
theorem oneS_inj {a b : Nat} (h : oneS a = oneS b) : a = b := by
  simp [oneS] at h; exact h
theorem oneS_le {a b : Nat} (h : a ≤ b) : leS (oneS a) (oneS b) = true := by
  have : [a] ≤ [b] := by
    rcases Nat.lt_or_ge a b with k | k
    · exact List.le_of_lt (List.Lex.rel k)
    · rw [Nat.le_antisymm h k]; exact List.le_refl _
  exact decide_eq_true this
theorem adS_mem (ks : List Str) (x y : Str) : y ∈ adS ks x ↔ y ∈ ks ∨ y = x := by
  unfold adS
  split
  · rename_i h
    exact ⟨.inl, fun z => z.elim id fun e => e ▸ h⟩
  · simp
theorem adS_nodup {ks : List Str} (h : ks.Nodup) (x : Str) : (adS ks x).Nodup := by
  unfold adS
  split
  · exact h
  · rename_i k
    rw [List.nodup_append]
    refine ⟨h, by simp, fun a ha b hb => ?_⟩
    rw [List.mem_singleton.mp hb]
    exact fun e => k (e ▸ ha)
theorem ded_gen : ∀ (ss ks : List Str), ks.Nodup → (ss.foldl adS ks).Nodup ∧ ∀ y, y ∈ ss.foldl adS ks ↔ y ∈ ks ∨ y ∈ ss
  | [], ks, h => ⟨h, fun y => by simp⟩
  | s :: ss, ks, h => by
    obtain ⟨a, b⟩ := ded_gen ss (adS ks s) (adS_nodup h s)
    refine ⟨a, fun y => ?_⟩
    rw [List.foldl_cons, b y, adS_mem, List.mem_cons, or_assoc]
theorem ded_nodup (ss : List Str) : (dedS ss).Nodup := (ded_gen ss [] List.nodup_nil).1
theorem ded_mem (ss : List Str) (y : Str) : y ∈ dedS ss ↔ y ∈ ss := by
  rw [dedS, (ded_gen ss [] List.nodup_nil).2 y]; simp
noncomputable def inOrd (w : List Nat) : List Nat := (List.range' 97 26).filter fun a => decide (a ∈ w)
theorem inOrd_mem {w : List Nat} {a : Nat} : a ∈ inOrd w ↔ a ∈ List.range' 97 26 ∧ a ∈ w := by simp [inOrd]
theorem nodup_perm {α : Type} [DecidableEq α] : ∀ {l m : List α}, l.Nodup → m.Nodup → (∀ a, a ∈ l ↔ a ∈ m) → l.Perm m
  | [], m, _, _, h => by
    have : m = [] := by
      cases m with
      | nil => rfl
      | cons b m => exact absurd ((h b).mpr (by simp)) (by simp)
    rw [this]
  | a :: l, m, hl, hm, h => by
    have ha : a ∈ m := (h a).mp (by simp)
    have hl' := List.nodup_cons.mp hl
    have p := List.perm_cons_erase ha
    refine ((nodup_perm hl'.2 (hm.erase a) fun b => ?_).cons a).trans p.symm
    rw [List.Nodup.mem_erase_iff hm, ← h b, List.mem_cons]
    exact ⟨fun k => ⟨fun e => hl'.1 (e ▸ k), .inr k⟩, fun k => k.2.resolve_left k.1⟩
theorem nodup_oneS {w : List Nat} (h : w.Nodup) : (w.map oneS).Nodup := by
  rw [List.Nodup, List.pairwise_map]
  exact h.imp fun k e => k (oneS_inj e)
theorem inOrd_nodup (w : List Nat) : (inOrd w).Nodup := List.Nodup.sublist List.filter_sublist (List.nodup_range' ..)
theorem inOrd_sorted (w : List Nat) : ((inOrd w).map oneS).Pairwise fun a b => leS a b = true := by
  rw [List.pairwise_map]
  have h : (List.range' 97 26).Pairwise (· < ·) := List.pairwise_lt_range'
  exact (h.sublist List.filter_sublist).imp fun k => oneS_le (Nat.le_of_lt k)
theorem sort_ded {w : List Nat} (hw : ∀ a ∈ w, a ∈ List.range' 97 26) : sortS (dedS (w.map oneS)) = (inOrd w).map oneS := by
  refine (List.Perm.eq_of_pairwise (fun _ _ _ _ h k => leS_anti h k) (inOrd_sorted w) (List.pairwise_mergeSort leS_trans leS_total _) ?_).symm
  refine List.Perm.trans ?_ (List.mergeSort_perm _ leS).symm
  refine nodup_perm (nodup_oneS (inOrd_nodup w)) (ded_nodup _) fun y => ?_
  rw [ded_mem, List.mem_map, List.mem_map]
  constructor
  · rintro ⟨a, ha, rfl⟩
    exact ⟨a, (inOrd_mem.mp ha).2, rfl⟩
  · rintro ⟨a, ha, rfl⟩
    exact ⟨a, inOrd_mem.mpr ⟨hw a ha, ha⟩, rfl⟩
theorem ded_len {w : List Nat} (hw : ∀ a ∈ w, a ∈ List.range' 97 26) : (dedS (w.map oneS)).length ≤ 26 := by
  rw [← sortS_len, sort_ded hw, List.length_map]
  refine Nat.le_trans (List.length_filter_le _ _) (by simp)
theorem nail_lo {a : Nat} (h : az a) : decide ([a] < (Str.ofString "a").cps.toList) = false := by
  have e : (Str.ofString "a").cps.toList = [97] := by decide +kernel
  rw [e]
  refine decide_eq_false fun k => ?_
  have : a < 97 := by
    cases k with
    | rel k => exact k
    | cons k => cases k
  exact absurd this (Nat.not_lt.mpr h.1)
theorem nail_hi {a : Nat} (h : az a) : decide ((Str.ofString "z").cps.toList < [a]) = false := by
  have e : (Str.ofString "z").cps.toList = [122] := by decide +kernel
  rw [e]
  refine decide_eq_false fun k => ?_
  have : 122 < a := by
    cases k with
    | rel k => exact k
    | cons k => cases k
  exact absurd this (Nat.not_lt.mpr (Nat.le_of_lt_succ h.2))
theorem pv_is_nail {a : Nat} (h : az a) : fn_is_nail [.str ⟨#[a]⟩] = some (.sh (.bool true)) := by
  have l : (⟨#[a]⟩ : Str).length = 1 := rfl
  have t : (#[a] : Array Nat).toList = [a] := rfl
  have lo := nail_lo h
  have hi := nail_hi h
  simp only [fn_is_nail, fnB, List.length_cons, List.length_nil, Nat.zero_add, runB, g_is_nail, pRet, pAndV, pUn, pVar, startE, List.map_cons, List.map_nil, Nat.sub_self, List.replicate, List.cons_append, List.nil_append, List.getElem?_cons_zero, look, Sl.val, dIsi, Ty.is, tyD, Option.map_some, Option.bind_some, pBin, pCaS, aCons, Sl.isBr, Bool.false_and, Bool.false_eq_true, aNil, if_false, dLen, pC, pEq, sc2, pChain, Bool.or_false, dCmp, Cm.i, Cm.s, lookA, l, Nat.reduceLeDiff, Int.cast_ofNat_Int, if_true, dEq_int, decide_true, hi, Bool.not_false, lo, outS, Clean, flat]
theorem pl_set_of (x0 : Sl) : ∀ (w : List Nat) (a : Sl), (∀ y ∈ w, az y) → ∃ a', pLoop t_set_of_L0 g_set_of_L0 (w.map stD) [x0, a] = some ([x0, a'], .nx)
  | [], a, _ => ⟨a, rfl⟩
  | y :: w, a, h => by
    have n := pv_is_nail (h y (List.mem_cons_self ..))
    have e : (t_set_of_L0 (stD y) [x0, a]).bind g_set_of_L0 = some ([x0, .sh (stD y)], .nx) := by
      simp only [t_set_of_L0, gNameP, List.length_cons, List.length_nil, Nat.zero_add, Nat.reduceAdd, Nat.reduceLT, stD, List.set_cons_succ, List.set_cons_zero, if_true, g_set_of_L0, Option.bind_some, pIfS, tNotP, pTru, pCall, aCons, pVar, List.getElem?_cons_succ, List.getElem?_cons_zero, Sl.isBr, Bool.false_and, Bool.false_eq_true, aNil, Option.map_some, if_false, lookA, look, Sl.val, n, dTru, Bool.not_true, pNext]
    obtain ⟨a', ih⟩ := pl_set_of x0 w (.sh (stD y)) fun z hz => h z (List.mem_cons_of_mem _ hz)
    refine ⟨a', ?_⟩
    rw [List.map_cons, pLoop, e]
    exact ih
theorem signs_w (w : List Nat) : signsD ⟨w.toArray⟩ = w.map stD := by simp [signsD, stD]
theorem sgn_w (w : List Nat) : sgnS ⟨w.toArray⟩ = w.map oneS := by simp [sgnS, oneS]
theorem strs_one : ∀ (w : List Nat), strsL (w.map stD) = some (w.map oneS)
  | [] => rfl
  | a :: w => by simp only [List.map_cons, stD, strsL]; rw [strs_one w]; rfl
theorem strsOf_one (w : List Nat) : strsOf ((w.map oneS).map PyData.str) = some (w.map oneS) := by
  induction w with
  | nil => rfl
  | cons a w ih => simp only [List.map_cons, strsOf, ih, Option.map_some]
theorem strsOf_one' : ∀ (w : List Nat), strsOf (w.map stD) = some (w.map oneS)
  | [] => rfl
  | a :: w => by simp only [List.map_cons, stD, strsOf]; rw [strsOf_one' w]; rfl
theorem len_one (w : List Nat) : ((w.map oneS).map (·.length)).sum + (w.map oneS).length * (Str.ofString "").length = w.length := by
  have : (Str.ofString "").length = 0 := rfl
  rw [this, Nat.mul_zero, Nat.add_zero]
  induction w with
  | nil => rfl
  | cons a w ih => simp only [List.map_cons, List.sum_cons, ih, List.length_cons]; show 1 + _ = _; omega
theorem join_one : ∀ (w : List Nat), Txt.join "" (w.map oneS) = ⟨w.toArray⟩ := by
  intro w
  show Builtin.Str.glued "" _ = _
  rw [StrLaws.glued_eq_join]
  induction w with
  | nil => rfl
  | cons a w ih =>
    cases w with
    | nil => rfl
    | cons b w =>
      have e : Str.join "" ((a :: b :: w).map oneS) = (⟨#[a]⟩ : Str) ++ "" ++ Str.join "" ((b :: w).map oneS) := rfl
      rw [e, ih]
      show (⟨(#[a] ++ (Str.ofString "").cps) ++ (b :: w).toArray⟩ : Str) = _
      rw [show (Str.ofString "").cps = #[] by decide +kernel]
      simp
theorem inOrd_len (w : List Nat) : (inOrd w).length ≤ 1000000 := Nat.le_trans (List.length_filter_le _ _) (by simp)
theorem pv_set_of {w : List Nat} (h : ∀ y ∈ w, az y) (hl : w.length ≤ 1000) : fn_set_of [.str ⟨w.toArray⟩] = some (.sh (.str ⟨(inOrd w).toArray⟩)) := by
  obtain ⟨a, e⟩ := pl_set_of (.sh (.str ⟨w.toArray⟩)) w .no h
  have d := sort_ded fun y hy => az_mem (h y hy)
  have d2 : (w.map oneS).length < 4000 ∧ (dedS (w.map oneS)).length < 64 := ⟨by rw [List.length_map]; omega, Nat.lt_of_le_of_lt (ded_len fun y hy => az_mem (h y hy)) (by decide)⟩
  have l := len_one (inOrd w)
  have l2 := inOrd_len w
  simp only [fn_set_of, fnB, List.length_cons, List.length_nil, Nat.zero_add, runB, g_set_of, pSeq, pIfS, tNotP, pTru, pUn, pVar, startE, List.map_cons, List.map_nil, Nat.reduceSub, List.replicate, List.cons_append, List.nil_append, List.getElem?_cons_zero, look, Sl.val, dIsi, Ty.is, tyD, Option.map_some, Option.bind_some, dTru, Bool.not_true, pNext, Bool.false_eq_true, if_false, pFor, iAny, frz, pRet, pJoin, pSortSet, dJoin, signs_w, e, sgn_w, d2, and_self, d, if_true, strsOf_one, l, l2, join_one, outS, Clean, flat]
theorem letters_l : (Str.ofString "abcdefghijklmnopqrstuvwxyz") = (⟨(List.range' 97 26).toArray⟩ : Str) := by decide +kernel
theorem in_one (w : List Nat) (a : Nat) : dIn (.str ⟨#[a]⟩) (.str ⟨w.toArray⟩) = some (decide (a ∈ w)) := by
  show some (!(Builtin.Str.occurrences ⟨w.toArray⟩ ⟨#[a]⟩ 0 (⟨w.toArray⟩ : Str).length 1).isEmpty) = _
  rw [occ_one, Bool.not_not]
theorem in_at {E : List Sl} {f g : PEv} {d1 d2 : PyData} {b : Bool} (hf : f E = some (.sh d1, E)) (hg : g E = some (.sh d2, E)) (hd : dIn d1 d2 = some b) : isB (pBin (pIn false) false f g) E = some (b, E) := by
  simp only [isB, pBin, pIn, sc2, hf, hg, hd, Option.bind_some, look, Sl.val, Option.map_some, Bool.false_and, Bool.false_eq_true, if_false]
theorem st_bits (w : List Nat) (n : Nat) (c : Nat) (hc : c = 97 + n) (p : Int) (hp : p = 2 ^ n) (a : Sl) : (t_bits_of_L0 (.str ⟨#[c]⟩) [.sh (.str ⟨w.toArray⟩), .sh (.int (NH.bitsTo w n)), .sh (.int p), a]).bind g_bits_of_L0 = some ([.sh (.str ⟨w.toArray⟩), .sh (.int (NH.bitsTo w (n + 1))), .sh (.int (p * 2)), .sh (.str ⟨#[c]⟩)], .nx) := by
  have i1 := in_one w c
  have ok : okMul p 2 = true := okMul_r (by decide) (by decide)
  have b : (NH.bitsTo w (n + 1) : Int) = if c ∈ w then (NH.bitsTo w n : Int) + p else (NH.bitsTo w n : Int) := by
    rw [NH.bitsTo, hc, hp]
    split
    · push_cast; rfl
    · simp
  generalize (NH.bitsTo w (n + 1) : Int) = B1 at b ⊢
  generalize (NH.bitsTo w n : Int) = B0 at b ⊢
  have tg : t_bits_of_L0 (.str ⟨#[c]⟩) [.sh (.str ⟨w.toArray⟩), .sh (.int B0), .sh (.int p), a] = some [.sh (.str ⟨w.toArray⟩), .sh (.int B0), .sh (.int p), .sh (.str ⟨#[c]⟩)] := rfl
  have t1 : isB (pBin (pIn false) false (pVar 3) (pVar 0)) [.sh (.str ⟨w.toArray⟩), .sh (.int B0), .sh (.int p), .sh (.str ⟨#[c]⟩)] = some (decide (c ∈ w), [.sh (.str ⟨w.toArray⟩), .sh (.int B0), .sh (.int p), .sh (.str ⟨#[c]⟩)]) := in_at rfl rfl i1
  have s2 : ∀ x : Int, pSet 2 (pBin pMul false (pVar 2) (pC (.int 2))) [.sh (.str ⟨w.toArray⟩), .sh (.int x), .sh (.int p), .sh (.str ⟨#[c]⟩)] = some ([.sh (.str ⟨w.toArray⟩), .sh (.int x), .sh (.int (p * 2)), .sh (.str ⟨#[c]⟩)], .nx) := fun x => set_sh (call_mul (g := pVar 2) (f := pC (.int 2)) rfl rfl ok) (show 2 < 4 by decide)
  rw [tg, Option.bind_some, g_bits_of_L0]
  by_cases h : c ∈ w
  · rw [if_pos h] at b
    rw [decide_eq_true h] at t1
    have s1 : pSet 1 (pBin pAdd false (pVar 1) (pVar 2)) [.sh (.str ⟨w.toArray⟩), .sh (.int B0), .sh (.int p), .sh (.str ⟨#[c]⟩)] = some ([.sh (.str ⟨w.toArray⟩), .sh (.int B1), .sh (.int p), .sh (.str ⟨#[c]⟩)], .nx) := by
      rw [b]
      exact set_sh (call_add (g := pVar 1) (f := pVar 2) rfl rfl) (show 1 < 4 by decide)
    rw [seq_nx (if_yes t1 s1)]
    exact s2 B1
  · rw [if_neg h] at b
    rw [decide_eq_false h] at t1
    rw [seq_nx (if_no (b := pNext) t1 rfl), b]
    exact s2 B0
theorem pl_bits (w : List Nat) : ∀ (k n : Nat) (a : Sl), n + k = 26 → ∃ a' b', pLoop t_bits_of_L0 g_bits_of_L0 ((List.range' (97 + n) k).map fun c => .str ⟨#[c]⟩) [.sh (.str ⟨w.toArray⟩), .sh (.int (NH.bitsTo w n)), .sh (.int (2 ^ n)), a] = some ([.sh (.str ⟨w.toArray⟩), .sh (.int (NH.bitsW w)), b', a'], .nx)
  | 0, n, a, h => ⟨a, .sh (.int (2 ^ n)), by rw [show n = 26 by omega]; rfl⟩
  | k + 1, n, a, h => by
    have s := st_bits w n (97 + n) rfl (2 ^ n) rfl a
    rw [(Int.pow_succ 2 n).symm] at s
    obtain ⟨a', b', e⟩ := pl_bits w k (n + 1) (.sh (.str ⟨#[97 + n]⟩)) (by omega)
    refine ⟨a', b', ?_⟩
    rw [List.range'_succ, List.map_cons, pLoop, s]
    exact e
theorem pv_bits_of (w : List Nat) : fn_bits_of [.str ⟨w.toArray⟩] = some (.sh (.int (NH.bitsW w))) := by
  obtain ⟨a, b, e⟩ := pl_bits w 26 0 .no rfl
  have z0 : ((NH.bitsTo w 0 : Nat) : Int) = 0 := rfl
  have z1 : (2 : Int) ^ 0 = 1 := rfl
  rw [z0, z1, Nat.add_zero] at e
  have sg : signsD (⟨(List.range' 97 26).toArray⟩ : Str) = (List.range' 97 26).map fun c => .str ⟨#[c]⟩ := by simp [signsD]
  simp only [fn_bits_of, fnB, List.length_cons, List.length_nil, Nat.zero_add, runB, g_bits_of, pSeq, pSet, pC, startE, List.map_cons, List.map_nil, Nat.reduceSub, List.replicate, List.cons_append, List.nil_append, PL.settle, frz, frzAll, Option.bind_some, Nat.reduceAdd, Nat.reduceLT, List.set_cons_succ, List.set_cons_zero, if_true, pFor, iAny, letters_l, sg, pRet, pVar, e, List.getElem?_cons_succ, List.getElem?_cons_zero, outS, Clean, flat]
theorem bitAnd_nat (a b : Nat) : Builtin.bitAnd (a : Int) (b : Int) = ((a &&& b : Nat) : Int) := by
  simp [Builtin.bitAnd]
theorem and_at {E : List Sl} {f g : PEv} {x y : Nat} (hf : f E = some (.sh (.int x), E)) (hg : g E = some (.sh (.int y), E)) : pBin pAnd false f g E = some (.sh (.int ((x &&& y : Nat) : Int)), E) := by
  simp only [pBin, pAnd, sc2, iOp, hf, hg, Option.bind_some, look, Sl.val, Option.map_some, Bool.false_and, Bool.false_eq_true, if_false, if_true, bitAnd_nat]
theorem eq_at {E : List Sl} {f g : PEv} {x y : Int} (hf : f E = some (.sh (.int x), E)) (hg : g E = some (.sh (.int y), E)) : isB (pBin pEq false f g) E = some (decide (x = y), E) := by
  simp only [isB, pBin, pEq, sc2, hf, hg, Option.bind_some, look, Sl.val, Option.map_some, Bool.false_and, Bool.false_eq_true, if_false, dEq_int]
noncomputable def natD (n : Nat) : PyData := .int n
theorem pl_part (x1 : Sl) (b : Nat) : ∀ (ps : List Nat) (a : Sl), ∃ E, pLoop t_has_part_among_L0 g_has_part_among_L0 (ps.map natD) [.sh (.int b), x1, a] = some (E, if ps.any (fun p => decide (p &&& b = p)) then .rt (.sh (.bool true)) else .nx)
  | [], a => ⟨_, rfl⟩
  | p :: ps, a => by
    have t1 : isB (pBin pEq false (pBin pAnd false (pVar 2) (pVar 0)) (pVar 2)) [.sh (.int b), x1, .sh (.int p)] = some (decide (((p &&& b : Nat) : Int) = (p : Int)), [.sh (.int b), x1, .sh (.int p)]) := eq_at (and_at (f := pVar 2) (g := pVar 0) (x := p) (y := b) rfl rfl) rfl
    have tg : t_has_part_among_L0 (natD p) [.sh (.int b), x1, a] = some [.sh (.int b), x1, .sh (.int p)] := rfl
    by_cases h : p &&& b = p
    · rw [decide_eq_true (by rw [h])] at t1
      refine ⟨[.sh (.int b), x1, .sh (.int p)], ?_⟩
      have st : (t_has_part_among_L0 (natD p) [.sh (.int b), x1, a]).bind g_has_part_among_L0 = some ([.sh (.int b), x1, .sh (.int p)], .rt (.sh (.bool true))) := by
        rw [tg, Option.bind_some, g_has_part_among_L0]
        exact if_yes t1 rfl
      rw [List.map_cons, pLoop, st, List.any_cons, decide_eq_true h]
      rfl
    · rw [decide_eq_false (by omega)] at t1
      obtain ⟨E, ih⟩ := pl_part x1 b ps (.sh (.int p))
      refine ⟨E, ?_⟩
      have st : (t_has_part_among_L0 (natD p) [.sh (.int b), x1, a]).bind g_has_part_among_L0 = some ([.sh (.int b), x1, .sh (.int p)], .nx) := by
        rw [tg, Option.bind_some, g_has_part_among_L0]
        exact if_no t1 rfl
      rw [List.map_cons, pLoop, st, List.any_cons, decide_eq_false h, Bool.false_or]
      exact ih
theorem pv_part (b : Nat) (ps : List Nat) : fn_has_part_among [.int b, .list (ps.map natD)] = some (.sh (.bool (ps.any fun p => decide (p &&& b = p)))) := by
  obtain ⟨E, e⟩ := pl_part (.sh (.list (ps.map natD))) b ps .no
  cases h : ps.any (fun p => decide (p &&& b = p)) with
  | true =>
    rw [h] at e
    simp only [if_true] at e
    simp only [fn_has_part_among, fnB, List.length_cons, List.length_nil, Nat.zero_add, Nat.reduceAdd, runB, g_has_part_among, pSeq, pFor, iAny, pVar, startE, List.map_cons, List.map_nil, Nat.reduceSub, List.replicate, List.cons_append, List.nil_append, List.getElem?_cons_succ, List.getElem?_cons_zero, frz, Option.bind_some, e, pRet, pC, outS, Clean, flat, if_true]
  | false =>
    rw [h] at e
    simp only [Bool.false_eq_true, if_false] at e
    simp only [fn_has_part_among, fnB, List.length_cons, List.length_nil, Nat.zero_add, Nat.reduceAdd, runB, g_has_part_among, pSeq, pFor, iAny, pVar, startE, List.map_cons, List.map_nil, Nat.reduceSub, List.replicate, List.cons_append, List.nil_append, List.getElem?_cons_succ, List.getElem?_cons_zero, frz, Option.bind_some, e, pRet, pC, outS, Clean, flat, if_true]
noncomputable def txD (w : List Nat) : PyData := .str ⟨w.toArray⟩
noncomputable def allS (w : List Nat) : List (List Nat) := w.foldl (fun acc a => acc ++ acc.map (· ++ [a])) [[]]
theorem flat_txD (l : List (List Nat)) : flatA (l.map txD) = true := by
  induction l with
  | nil => rfl
  | cons a l ih => show (flat (txD a) && flatA (l.map txD)) = true; rw [ih]; rfl
theorem app_tx (u v : List Nat) : (⟨u.toArray⟩ : Str) ++ (⟨v.toArray⟩ : Str) = ⟨(u ++ v).toArray⟩ := by
  show (⟨u.toArray ++ v.toArray⟩ : Str) = _
  simp
theorem len_tx (w : List Nat) : (⟨w.toArray⟩ : Str).length = w.length := by show w.toArray.size = _; simp
theorem pc_all (a : Nat) : ∀ (l : List (List Nat)) (x0 : Sl), (∀ u ∈ l, u.length ≤ 1000) → cLoop t_all_sets_C1 tYesP e_all_sets_C1 (l.map txD) [x0, .sh (.str ⟨#[a]⟩)] = some ((l.map (· ++ [a])).map txD)
  | [], x0, _ => rfl
  | u :: l, x0, h => by
    have hu := h u (List.mem_cons_self ..)
    have ap : (⟨u.toArray⟩ : Str) ++ (⟨#[a]⟩ : Str) = ⟨(u ++ [a]).toArray⟩ := app_tx u [a]
    have l1 : (⟨#[a]⟩ : Str).length = 1 := rfl
    have lb : u.length + 1 ≤ 1000000 := by omega
    have e : t_all_sets_C1 (txD u) [x0, .sh (.str ⟨#[a]⟩)] = some [.sh (.str ⟨u.toArray⟩), .sh (.str ⟨#[a]⟩)] := rfl
    have e2 : e_all_sets_C1 [.sh (.str ⟨u.toArray⟩), .sh (.str ⟨#[a]⟩)] = some (.sh (.str ⟨(u ++ [a]).toArray⟩), [.sh (.str ⟨u.toArray⟩), .sh (.str ⟨#[a]⟩)]) := by
      simp only [e_all_sets_C1, pBin, pVar, List.getElem?_cons_zero, Sl.isBr, Bool.false_and, Bool.false_eq_true, pAdd, look, Sl.val, hot, hot1, if_false, Option.bind_some, List.getElem?_cons_succ, Bool.not_false, Bool.true_or, Bool.and_true, len_tx, l1, lb, ap, if_true]
    rw [List.map_cons, cLoop, e, Option.bind_some]
    simp only [tYesP, frz, Option.bind_some, e2, pc_all a l _ fun v hv => h v (List.mem_cons_of_mem _ hv), Option.map_some, if_true, List.map_cons]
    rfl
theorem pl_all (x0 : Sl) : ∀ (w : List Nat) (l : List (List Nat)) (n : Nat) (a : Sl), l.length * 2 ^ w.length ≤ 100000 → n + w.length ≤ 1000 → (∀ u ∈ l, u.length ≤ n) → ∃ a', pLoop t_all_sets_L0 g_all_sets_L0 (w.map fun c => .str ⟨#[c]⟩) [x0, .ow (l.map txD), a] = some ([x0, .ow ((w.foldl (fun acc a => acc ++ acc.map (· ++ [a])) l).map txD), a'], .nx)
  | [], l, n, a, _, _, _ => ⟨a, rfl⟩
  | c :: w, l, n, a, hb, hn, hl => by
    have p1 : 1 ≤ 2 ^ w.length := Nat.one_le_two_pow
    have lle : l.length ≤ 100000 := by
      rw [List.length_cons, Nat.pow_succ] at hb
      have : l.length * 1 ≤ l.length * (2 ^ w.length * 2) := Nat.mul_le_mul_left _ (by omega)
      omega
    have k := pc_all c l .no fun u hu => by have := hl u hu; simp at hn; omega
    have lb : (l.map (· ++ [c])).length ≤ 1000000 := by simp; omega
    have lb2 : l.length + (l.map (· ++ [c])).length ≤ 1000000 := by simp; omega
    have fl := flat_txD (l.map (· ++ [c]))
    have lb3 : l.length ≤ 1000000 := by omega
    have lb4 : l.length + l.length ≤ 1000000 := by omega
    have st : (t_all_sets_L0 (.str ⟨#[c]⟩) [x0, .ow (l.map txD), a]).bind g_all_sets_L0 = some ([x0, .ow ((l ++ l.map (· ++ [c])).map txD), .sh (.str ⟨#[c]⟩)], .nx) := by
      simp only [t_all_sets_L0, gNameP, List.length_cons, List.length_nil, Nat.zero_add, Nat.reduceAdd, Nat.reduceLT, List.set_cons_succ, List.set_cons_zero, if_true, g_all_sets_L0, Option.bind_some, pSet, pBin, pVar, List.getElem?_cons_succ, List.getElem?_cons_zero, Sl.isBr, Bool.false_and, Bool.false_eq_true, pComp, iAny, frz, slotsE, List.map_cons, slotE, List.map_nil, pAdd, look, Sl.val, hot, hot1, if_false, k, fl, List.length_map, lb3, decide_true, Bool.and_true, Option.any_some, Bool.not_false, Bool.true_or, lb4, ← List.map_append, PL.settle, frzAll]
    obtain ⟨a', e⟩ := pl_all x0 w (l ++ l.map (· ++ [c])) (n + 1) (.sh (.str ⟨#[c]⟩)) (by
      rw [List.length_append, List.length_map, ← Nat.two_mul, Nat.mul_assoc]
      rw [List.length_cons, Nat.pow_succ] at hb
      have e1 : 2 * (l.length * 2 ^ w.length) = l.length * (2 ^ w.length * 2) := by rw [Nat.mul_comm 2, Nat.mul_assoc]
      omega) (by simp at hn; omega) (fun u hu => by
        rcases List.mem_append.mp hu with q | q
        · have := hl u q; omega
        · obtain ⟨v, hv, rfl⟩ := List.mem_map.mp q
          have := hl v hv
          simp; omega)
    refine ⟨a', ?_⟩
    rw [List.map_cons, pLoop, st]
    exact e
theorem pv_all (w : List Nat) (hw : w.length ≤ 10) : fn_all_sets [.str ⟨w.toArray⟩] = some (.ow ((allS w).map txD)) := by
  have p : 2 ^ w.length ≤ 2 ^ 10 := Nat.pow_le_pow_right (by decide) hw
  obtain ⟨a, e⟩ := pl_all (.sh (.str ⟨w.toArray⟩)) w [[]] 0 .no (by simp; omega) (by omega) (fun u hu => by rw [List.mem_singleton.mp hu]; simp)
  have e0 : [PyData.str ""] = ([[]] : List (List Nat)).map txD := rfl
  have sg : signsD (⟨w.toArray⟩ : Str) = w.map fun c => .str ⟨#[c]⟩ := by simp [signsD]
  have fl := flat_txD (allS w)
  unfold allS at fl ⊢
  have s1 : pSet 1 (pLst (dCons (pC (.str "")) dNil)) [.sh (.str ⟨w.toArray⟩), .no, .no] = some ([.sh (.str ⟨w.toArray⟩), .ow (([[]] : List (List Nat)).map txD), .no], .nx) := by
    rw [← e0]
    simp only [pSet, pLst, dCons, pC, frz, dNil, Option.map_some, Option.bind_some, List.length_cons, List.length_nil, Nat.zero_add, Nat.reduceLeDiff, if_true, PL.settle, frzAll, Nat.reduceAdd, Nat.reduceLT, List.set_cons_succ, List.set_cons_zero]
  have it : ∀ y : Sl, iAny (pVar 0) [.sh (.str ⟨w.toArray⟩), y, .no] = some (w.map fun c => .str ⟨#[c]⟩, [.sh (.str ⟨w.toArray⟩), y, .no]) := fun y => by
    simp only [iAny, pVar, List.getElem?_cons_zero, frz, Option.bind_some, sg]
  have fo : pFor (iAny (pVar 0)) t_all_sets_L0 g_all_sets_L0 [.sh (.str ⟨w.toArray⟩), .ow (([[]] : List (List Nat)).map txD), .no] = some ([.sh (.str ⟨w.toArray⟩), .ow ((w.foldl (fun acc a => acc ++ acc.map (· ++ [a])) [[]]).map txD), a], .nx) := by
    unfold pFor
    rw [it, Option.bind_some]
    exact e
  have g : fn_all_sets [.str ⟨w.toArray⟩] = (g_all_sets [.sh (.str ⟨w.toArray⟩), .no, .no]).bind fun a => match a.2 with | .rt r => outS r | .nx => some (.sh .none) | _ => none := rfl
  rw [g, g_all_sets, seq_nx s1, seq_nx fo]
  simp only [pRet, pVar, List.getElem?_cons_succ, List.getElem?_cons_zero, Option.bind_some, List.set_cons_succ, List.set_cons_zero, Option.map_some, outS, Clean, fl, if_true]
open NhFam in
theorem keyS_tx (w : List Nat) : NhSG.keyS ⟨w.toArray⟩ = key w := by
  show (((⟨w.toArray⟩ : Str).length : Int), w.toArray.toList) = ((w.length : Int), w)
  rw [len_tx]
theorem strsL_tx : ∀ F : List (List Nat), strsL (F.map txD) = some (F.map fun w => (⟨w.toArray⟩ : Str))
  | [] => rfl
  | w :: F => by
    show (strsL (F.map txD)).map ((⟨w.toArray⟩ : Str) :: ·) = _
    rw [strsL_tx F]
    rfl
theorem sortK_tx (F : List (List Nat)) : NhSG.sortK (F.map fun w => (⟨w.toArray⟩ : Str)) = (NhFam.sortT F).map fun w => (⟨w.toArray⟩ : Str) := by
  refine (NhSG.sort_uniq ((List.mergeSort_perm F _).map _) ?_).symm
  rw [List.pairwise_map]
  exact (NhFam.sortT_ord F).imp fun {a b} h => by
    unfold NhSG.leK
    rw [keyS_tx, keyS_tx]
    have : NhSG.ltKy (NhFam.key b) (NhFam.key a) = false := by simpa [NhFam.ltT] using h
    rw [this]; rfl
theorem map_txD (F : List (List Nat)) : (F.map fun w => (⟨w.toArray⟩ : Str)).map PyData.str = F.map txD := by rw [List.map_map]; rfl
noncomputable def Fit (F : List (List Nat)) : Prop := F.length < 64 ∧ ∀ w ∈ F, NH.Ltrs w ∧ w.length ≤ 1000
theorem Fit.chk {F : List (List Nat)} (h : Fit F) : (decide ((F.map fun w => (⟨w.toArray⟩ : Str)).length < 64) && (F.map fun w => (⟨w.toArray⟩ : Str)).all fun z => decide (z.length ≤ 1000)) = true := by
  simp only [Bool.and_eq_true, decide_eq_true_eq, List.all_eq_true, List.length_map]
  refine ⟨h.1, fun z hz => ?_⟩
  obtain ⟨w, hw, rfl⟩ := List.mem_map.mp hz
  rw [len_tx]
  exact (h.2 w hw).2
theorem pv_told_order {F : List (List Nat)} (h : Fit F) : fn_in_told_order [.list (F.map txD)] = some (.ow ((NhFam.sortT F).map txD)) := by
  have a : pSortK (pVar 0) [.sh (.list (F.map txD))] = some (.ow ((NhFam.sortT F).map txD), [.sh (.list (F.map txD))]) := by
    unfold pSortK
    simp only [pVar, List.getElem?_cons_zero, Option.bind_some, look, Sl.val, strsL_tx, h.chk, if_true, sortK_tx, map_txD]
  have fl := flat_txD (NhFam.sortT F)
  simp only [fn_in_told_order, g_in_told_order, fnB, runB, startE, pRet, a, Option.bind_some, Option.map_some, outS, Clean, fl, if_true, List.length_cons, List.length_nil, Nat.sub_self, List.replicate, List.map_cons, List.map_nil, List.append_nil, Nat.zero_add, Nat.reduceAdd]
noncomputable def bitD (w : List Nat) : PyData := natD (NH.bitsW w)
theorem flat_bitD (l : List (List Nat)) : flatA (l.map bitD) = true := by
  induction l with
  | nil => rfl
  | cons a l ih => show (flat (bitD a) && flatA (l.map bitD)) = true; rw [ih]; rfl
theorem bitD_map (K : List (List Nat)) : K.map bitD = (K.map NH.bitsW).map natD := by rw [List.map_map]; rfl
theorem any_part {K : List (List Nat)} (h : ∀ k ∈ K, NH.Ltrs k) (w : List Nat) : (K.map NH.bitsW).any (fun p => decide (p &&& NH.bitsW w = p)) = K.any (fun k => decide (NhFam.le k w)) := by
  induction K with
  | nil => rfl
  | cons k K ih =>
    rw [List.map_cons, List.any_cons, List.any_cons, ih fun k hk => h k (List.mem_cons_of_mem _ hk)]
    congr 1
    exact decide_eq_decide.mpr (NH.bits_part (h k (List.mem_cons_self ..)))
theorem pl_least (x0 : Sl) : ∀ (S K : List (List Nat)) (a b : Sl), (∀ w ∈ S, NH.Ltrs w) → (∀ w ∈ K, NH.Ltrs w) → K.length + S.length ≤ 1000 → ∃ y a' b', pLoop t_least_of_L0 g_least_of_L0 (S.map txD) [x0, .ow (K.map txD), .ow (K.map bitD), a, b] = some ([x0, .ow ((NhFam.stepL K S).map txD), y, a', b'], .nx)
  | [], K, a, b, _, _, _ => ⟨_, a, b, rfl⟩
  | w :: S, K, a, b, hS, hK, hl => by
    have tg : t_least_of_L0 (txD w) [x0, .ow (K.map txD), .ow (K.map bitD), a, b] = some [x0, .ow (K.map txD), .ow (K.map bitD), .sh (txD w), b] := rfl
    have c1 : pCall fn_bits_of (aCons false (pVar 3) aNil) [x0, .ow (K.map txD), .ow (K.map bitD), .sh (txD w), b] = some (.sh (.int (NH.bitsW w)), [x0, .ow (K.map txD), .ow (K.map bitD), .sh (txD w), b]) := call_at (ss := [.sh (txD w)]) rfl rfl (pv_bits_of w)
    have s1 : pSet 4 (pCall fn_bits_of (aCons false (pVar 3) aNil)) [x0, .ow (K.map txD), .ow (K.map bitD), .sh (txD w), b] = some ([x0, .ow (K.map txD), .ow (K.map bitD), .sh (txD w), .sh (.int (NH.bitsW w))], .nx) := set_sh c1 (show 4 < 5 by decide)
    have pp := pv_part (NH.bitsW w) (K.map NH.bitsW)
    rw [← bitD_map, any_part hK w] at pp
    have c2 : pTru (pCall fn_has_part_among (aCons false (pVar 4) (aCons false (pVar 2) aNil))) [x0, .ow (K.map txD), .ow (K.map bitD), .sh (txD w), .sh (.int (NH.bitsW w))] = some (K.any (fun k => decide (NhFam.le k w)), [x0, .ow (K.map txD), .ow (K.map bitD), .sh (txD w), .sh (.int (NH.bitsW w))]) := by
      have c3 : pCall fn_has_part_among (aCons false (pVar 4) (aCons false (pVar 2) aNil)) [x0, .ow (K.map txD), .ow (K.map bitD), .sh (txD w), .sh (.int (NH.bitsW w))] = some (.sh (.bool (K.any (fun k => decide (NhFam.le k w)))), [x0, .ow (K.map txD), .ow (K.map bitD), .sh (txD w), .sh (.int (NH.bitsW w))]) := call_at (ss := [.sh (.int (NH.bitsW w)), .al 2]) rfl rfl pp
      simp only [pTru, c3, Option.bind_some, look, Sl.val, dTru, Option.map_some]
    by_cases h : K.any (fun k => decide (NhFam.le k w)) = true
    · rw [h] at c2
      have st : (t_least_of_L0 (txD w) [x0, .ow (K.map txD), .ow (K.map bitD), a, b]).bind g_least_of_L0 = some ([x0, .ow (K.map txD), .ow (K.map bitD), .sh (txD w), .sh (.int (NH.bitsW w))], .nx) := by
        rw [tg, Option.bind_some, g_least_of_L0, seq_nx s1]
        refine if_no ?_ rfl
        simp only [tNotP, c2, Option.map_some, Bool.not_true]
      obtain ⟨y, a', b', e⟩ := pl_least x0 S K (.sh (txD w)) (.sh (.int (NH.bitsW w))) (fun v hv => hS v (List.mem_cons_of_mem _ hv)) hK (by simp at hl; omega)
      refine ⟨y, a', b', ?_⟩
      rw [List.map_cons, pLoop, st, NhFam.stepL, if_pos h]
      exact e
    · have h' : K.any (fun k => decide (NhFam.le k w)) = false := by simpa using h
      rw [h'] at c2
      have b1 : K.length < 1000000 := by simp at hl; omega
      have st : (t_least_of_L0 (txD w) [x0, .ow (K.map txD), .ow (K.map bitD), a, b]).bind g_least_of_L0 = some ([x0, .ow ((K ++ [w]).map txD), .ow ((K ++ [w]).map bitD), .sh (txD w), .sh (.int (NH.bitsW w))], .nx) := by
        rw [tg, Option.bind_some, g_least_of_L0, seq_nx s1]
        have n2 : tNotP (pTru (pCall fn_has_part_among (aCons false (pVar 4) (aCons false (pVar 2) aNil)))) [x0, .ow (K.map txD), .ow (K.map bitD), .sh (txD w), .sh (.int (NH.bitsW w))] = some (true, [x0, .ow (K.map txD), .ow (K.map bitD), .sh (txD w), .sh (.int (NH.bitsW w))]) := by
          simp only [tNotP, c2, Option.map_some, Bool.not_false]
        refine if_yes n2 ?_
        have a1 : pExpr (pAppend 2 (pVar 4)) [x0, .ow (K.map txD), .ow (K.map bitD), .sh (txD w), .sh (.int (NH.bitsW w))] = some ([x0, .ow (K.map txD), .ow ((K ++ [w]).map bitD), .sh (txD w), .sh (.int (NH.bitsW w))], .nx) := by
          simp only [pExpr, pAppend, List.getElem?_cons_succ, List.getElem?_cons_zero, pVar, frz, Option.bind_some, List.length_map, b1, List.set_cons_succ, List.set_cons_zero, if_true, Option.map_some, List.map_append, List.map_cons, List.map_nil]
          rfl
        rw [seq_nx a1]
        simp only [pExpr, pAppend, List.map_append, List.map_cons, List.map_nil, List.getElem?_cons_succ, List.getElem?_cons_zero, pVar, frz, Option.bind_some, List.length_map, b1, List.set_cons_succ, List.set_cons_zero, if_true, Option.map_some]
      obtain ⟨y, a', b', e⟩ := pl_least x0 S (K ++ [w]) (.sh (txD w)) (.sh (.int (NH.bitsW w))) (fun v hv => hS v (List.mem_cons_of_mem _ hv)) (fun v hv => by
        rcases List.mem_append.mp hv with q | q
        · exact hK v q
        · rw [List.mem_singleton.mp q]; exact hS w (List.mem_cons_self ..)) (by simp at hl ⊢; omega)
      refine ⟨y, a', b', ?_⟩
      rw [List.map_cons, pLoop, st, NhFam.stepL, if_neg h]
      exact e
theorem pv_least_of {F : List (List Nat)} (h : Fit F) : fn_least_of [.list (F.map txD)] = some (.ow ((NhFam.leastT F).map txD)) := by
  obtain ⟨y, a, b, e⟩ := pl_least (.sh (.list (F.map txD))) (NhFam.sortT F) [] .no .no (fun w hw => (h.2 w (NhFam.sortT_mem.mp hw)).1) (fun w hw => by cases hw) (by
    have : (NhFam.sortT F).length = F.length := (List.mergeSort_perm F _).length_eq
    have := h.1
    simp; omega)
  have it : iAny (pCall fn_in_told_order (aCons false (pVar 0) aNil)) [.sh (.list (F.map txD)), .ow [], .ow [], .no, .no] = some ((NhFam.sortT F).map txD, [.sh (.list (F.map txD)), .ow [], .ow [], .no, .no]) := by
    have c : pCall fn_in_told_order (aCons false (pVar 0) aNil) [.sh (.list (F.map txD)), .ow [], .ow [], .no, .no] = some (.ow ((NhFam.sortT F).map txD), [.sh (.list (F.map txD)), .ow [], .ow [], .no, .no]) := call_at (ss := [.sh (.list (F.map txD))]) rfl rfl (pv_told_order h)
    unfold iAny
    rw [c]
    rfl
  have fo : pFor (iAny (pCall fn_in_told_order (aCons false (pVar 0) aNil))) t_least_of_L0 g_least_of_L0 [.sh (.list (F.map txD)), .ow [], .ow [], .no, .no] = some ([.sh (.list (F.map txD)), .ow ((NhFam.leastT F).map txD), y, a, b], .nx) := by
    unfold pFor
    rw [it, Option.bind_some]
    exact e
  have g : fn_least_of [.list (F.map txD)] = (g_least_of [.sh (.list (F.map txD)), .no, .no, .no, .no]).bind fun a => match a.2 with | .rt r => outS r | .nx => some (.sh .none) | _ => none := rfl
  have s1 : pSet 1 (pLst dNil) [.sh (.list (F.map txD)), .no, .no, .no, .no] = some ([.sh (.list (F.map txD)), .ow [], .no, .no, .no], .nx) := by simp only [pSet, pLst, dNil, Option.bind_some, List.length_nil, Nat.reduceLeDiff, if_true, PL.settle, frz, frzAll, List.length_cons, Nat.zero_add, Nat.reduceAdd, Nat.reduceLT, List.set_cons_succ, List.set_cons_zero]
  have s2 : pSet 2 (pLst dNil) [.sh (.list (F.map txD)), .ow [], .no, .no, .no] = some ([.sh (.list (F.map txD)), .ow [], .ow [], .no, .no], .nx) := by simp only [pSet, pLst, dNil, Option.bind_some, List.length_nil, Nat.reduceLeDiff, if_true, PL.settle, frz, frzAll, List.length_cons, Nat.zero_add, Nat.reduceAdd, Nat.reduceLT, List.set_cons_succ, List.set_cons_zero]
  have fl := flat_txD (NhFam.leastT F)
  rw [g, g_least_of, seq_nx s1, seq_nx s2, seq_nx fo]
  simp only [pRet, pVar, List.getElem?_cons_succ, List.getElem?_cons_zero, Option.bind_some, List.set_cons_succ, List.set_cons_zero, Option.map_some, outS, Clean, fl, if_true]
noncomputable def stx (w : List Nat) : Str := ⟨w.toArray⟩
structure Fam (U : List Nat) (F : List (List Nat)) : Prop where
  sub : ∀ v ∈ F, NhFam.Sub U v
  len : F.length < 60
structure Uni (U : List Nat) : Prop where
  srt : NhFam.Srt U
  lt : ∀ a ∈ U, az a
  len : U.length ≤ 5
theorem Uni.ltrs {U w : List Nat} (h : Uni U) (s : NhFam.Sub U w) : NH.Ltrs w := fun a ha => by
  have := h.lt a (s.2 a ha)
  exact ⟨this.1, this.2⟩
theorem Uni.azw {U w : List Nat} (h : Uni U) (s : NhFam.Sub U w) : ∀ a ∈ w, az a := fun a ha => h.lt a (s.2 a ha)
theorem Uni.short {U w : List Nat} (h : Uni U) (s : NhFam.Sub U w) : w.length ≤ 5 := Nat.le_trans (NhFam.sub_of_le s.1 h.srt s.2).length_le h.len
theorem Fam.fit {U : List Nat} {F : List (List Nat)} (u : Uni U) (h : Fam U F) : Fit F := ⟨by have := h.len; omega, fun w hw => ⟨u.ltrs (h.sub w hw), by have := u.short (h.sub w hw); omega⟩⟩
theorem srt_inOrd (w : List Nat) : NhFam.Srt (inOrd w) := List.Pairwise.sublist List.filter_sublist (List.pairwise_lt_range' ..)
theorem inOrd_id {w : List Nat} (h : NhFam.Srt w) (a : ∀ y ∈ w, az y) : inOrd w = w :=
  (srt_inOrd w).ext h (fun x hx => (inOrd_mem.mp hx).2) fun x hx => inOrd_mem.mpr ⟨az_mem (a x hx), hx⟩
theorem join_tx : ∀ F : List (List Nat), Txt.join "" (F.map stx) = ⟨F.flatten.toArray⟩ := by
  intro F
  show Builtin.Str.glued "" _ = _
  rw [StrLaws.glued_eq_join]
  induction F with
  | nil => rfl
  | cons a F ih =>
    cases F with
    | nil => simp [Str.join, stx]
    | cons b F =>
      have e : Str.join "" ((a :: b :: F).map stx) = (stx a) ++ "" ++ Str.join "" ((b :: F).map stx) := rfl
      rw [e, ih]
      show (⟨(a.toArray ++ (Str.ofString "").cps) ++ (b :: F).flatten.toArray⟩ : Str) = _
      rw [show (Str.ofString "").cps = #[] by decide +kernel]
      simp
theorem strsOf_tx : ∀ F : List (List Nat), strsOf (F.map txD) = some (F.map stx)
  | [] => rfl
  | w :: F => by
    show (strsOf (F.map txD)).map (stx w :: ·) = _
    rw [strsOf_tx F]
    rfl
theorem len_join : ∀ F : List (List Nat), ((F.map stx).map (·.length)).sum + (F.map stx).length * (Str.ofString "").length = F.flatten.length := by
  intro F
  have : (Str.ofString "").length = 0 := rfl
  rw [this, Nat.mul_zero, Nat.add_zero]
  induction F with
  | nil => rfl
  | cons a F ih =>
    simp only [List.map_cons, List.sum_cons, ih, List.flatten_cons, List.length_append]
    rw [show (stx a).length = a.length from len_tx a]
theorem flat_len {U : List Nat} {F : List (List Nat)} (u : Uni U) (h : ∀ v ∈ F, NhFam.Sub U v) : F.flatten.length ≤ F.length * 5 := by
  induction F with
  | nil => simp
  | cons a F ih =>
    have := ih fun v hv => h v (List.mem_cons_of_mem _ hv)
    have := u.short (h a (List.mem_cons_self ..))
    simp only [List.flatten_cons, List.length_append, List.length_cons]
    omega
theorem flat_az {U : List Nat} {F : List (List Nat)} (u : Uni U) (h : ∀ v ∈ F, NhFam.Sub U v) : ∀ y ∈ F.flatten, az y := fun y hy => by
  obtain ⟨v, hv, hy⟩ := List.mem_flatten.mp hy
  exact u.azw (h v hv) y hy
theorem pv_nails_among {U : List Nat} {F : List (List Nat)} (u : Uni U) (h : ∀ v ∈ F, NhFam.Sub U v) (hl : F.length ≤ 150) : fn_nails_among [.list (F.map txD)] = some (.sh (txD (inOrd F.flatten))) := by
  have fl := flat_len u h
  have e := pv_set_of (flat_az u h) (by omega)
  have l := len_join F
  have l2 : F.flatten.length ≤ 1000000 := by omega
  have j := join_tx F
  have a : pJoin "" (pVar 0) [.sh (.list (F.map txD))] = some (.sh (.str ⟨F.flatten.toArray⟩), [.sh (.list (F.map txD))]) := by
    simp only [pJoin, pUn, dJoin, pVar, List.getElem?_cons_zero, Option.bind_some, look, Sl.val, strsOf_tx, l, l2, if_true, Option.map_some, j]
  have b : pCall fn_set_of (aCons false (pJoin "" (pVar 0)) aNil) [.sh (.list (F.map txD))] = some (.sh (txD (inOrd F.flatten)), [.sh (.list (F.map txD))]) := call_at (ss := [.sh (.str ⟨F.flatten.toArray⟩)]) (by simp only [aCons, aNil, a, Option.bind_some, Option.map_some, Bool.false_and, Bool.false_eq_true, if_false]) rfl e
  have fx : flat (txD (inOrd F.flatten)) = true := rfl
  simp only [fn_nails_among, g_nails_among, fnB, runB, startE, pRet, b, Option.bind_some, Option.map_some, outS, Clean, fx, if_true, List.length_cons, List.length_nil, Nat.sub_self, List.replicate, List.map_cons, List.map_nil, List.append_nil, Nat.zero_add, Nat.reduceAdd]
theorem pv_check_many {w : List Nat} (h : w.length ≤ 10) : fn_check_many [txD w] = some (.sh .none) := by
  have l := len_tx w
  have lt : ¬ ((w.length : Int) > 10) := by omega
  have lb : w.length ≤ 1000000 := by omega
  simp only [fn_check_many, fnB, txD, List.length_cons, List.length_nil, Nat.zero_add, runB, g_check_many, pIfS, isB, pBin, pCaS, aCons, pVar, startE, List.map_cons, List.map_nil, Nat.sub_self, List.replicate, List.cons_append, List.nil_append, List.getElem?_cons_zero, Sl.isBr, Bool.false_and, Bool.false_eq_true, aNil, Option.map_some, if_false, Option.bind_some, dLen, lookA, look, Sl.val, l, lb, if_true, pC, sc2, dCmp, Cm.i, Cm.s, lt, decide_false, pNext, outS, Clean]
theorem comp_at {js : List (Option Nat)} {it : PDv} {tg : PGv} {c : PTv} {el : PEv} {E E1 : List Sl} {ds rs : List PyData} (hi : it E = some (ds, E1)) (hl : cLoop tg c el ds (slotsE js E1) = some rs) (fl : flatA rs = true) (ll : rs.length ≤ 1000000) : pComp js it tg c el E = some (.ow rs, E1) := by
  simp only [pComp, hi, Option.bind_some, hl, fl, ll, if_true, and_self, Option.map_some, decide_true, Bool.and_self, Bool.true_and, Bool.and_true]
theorem flat_nat (l : List Nat) : flatA (l.map natD) = true := by
  induction l with
  | nil => rfl
  | cons a l ih => show (flat (natD a) && flatA (l.map natD)) = true; rw [ih]; rfl
theorem cl_if {tg : PGv} {cond : PTv} {elt : PEv} {d r : PyData} {ds rs : List PyData} {E E1 : List Sl} {b : Bool} (t : tg d E = some E1) (c : cond E1 = some (b, E1)) (el : elt E1 = some (.sh r, E1)) (h : cLoop tg cond elt ds E1 = some rs) : cLoop tg cond elt (d :: ds) E = some (if b then r :: rs else rs) := by
  cases b with
  | true => simp only [cLoop, t, c, el, h, Option.bind_some, Option.map_some, if_true, frz]
  | false => simp only [cLoop, t, c, h, Option.bind_some, Bool.false_eq_true, if_false]
theorem Uni.small {U V : List Nat} (u : Uni U) (hV : NhFam.Sub U V) : Uni V := ⟨hV.1, u.azw hV, u.short hV⟩
theorem all_fit {U : List Nat} (u : Uni U) (p : List Nat → Bool) : Fam U ((NhFam.allT U).filter p) := ⟨fun v hv => (NhFam.allT_mem u.srt).mp (List.mem_filter.mp hv).1, by
  have h1 := List.length_filter_le p (NhFam.allT U)
  rw [NhFam.allT_len] at h1
  have : 2 ^ U.length ≤ 2 ^ 5 := Nat.pow_le_pow_right (by decide) u.len
  omega⟩
theorem nails_sub {U : List Nat} {F : List (List Nat)} (u : Uni U) (h : ∀ v ∈ F, NhFam.Sub U v) : NhFam.Sub U (inOrd F.flatten) := ⟨srt_inOrd _, fun x hx => by
  obtain ⟨v, hv, hx⟩ := List.mem_flatten.mp (inOrd_mem.mp hx).2
  exact (h v hv).2 x hx⟩
theorem nails_has {U : List Nat} {F : List (List Nat)} (u : Uni U) (h : ∀ v ∈ F, NhFam.Sub U v) : ∀ v ∈ F, NhFam.le v (inOrd F.flatten) := fun v hv x hx => inOrd_mem.mpr ⟨az_mem (u.azw (h v hv) x hx), List.mem_flatten.mpr ⟨v, hv, hx⟩⟩
theorem told_fam {U : List Nat} {L : List (List Nat)} {f : List Nat → Prop} (u : Uni U) (t : NhFam.Told U L f) : Fam U L := ⟨t.sub, by
  have nd := NhFam.srt_nodup t.srt
  have h : L.length ≤ (NhFam.allT U).length := by
    have key : ∀ (L M : List (List Nat)), L.Nodup → (∀ w ∈ L, w ∈ M) → L.length ≤ M.length := fun L => by
      induction L with
      | nil => intro M _ _; simp
      | cons a L ih =>
        intro M hn hm
        have hn' := List.nodup_cons.mp hn
        have := ih (M.erase a) hn'.2 fun w hw => (List.mem_erase_of_ne (a := w) (b := a) (fun e => hn'.1 (by rw [← e]; exact hw))).mpr (hm w (List.mem_cons_of_mem _ hw))
        rw [List.length_erase_of_mem (hm a (List.mem_cons_self ..))] at this
        have pos : 0 < M.length := List.length_pos_of_mem (hm a (List.mem_cons_self ..))
        simp only [List.length_cons]
        omega
    exact key L _ nd fun w hw => (NhFam.allT_mem u.srt).mpr (t.sub w hw)
  rw [NhFam.allT_len] at h
  have : 2 ^ U.length ≤ 2 ^ 5 := Nat.pow_le_pow_right (by decide) u.len
  omega⟩
theorem expr_at {f : PEv} {E E1 : List Sl} {r : Sl} (h : f E = some (r, E1)) : pExpr f E = some (E1, .nx) := by
  simp only [pExpr, h, Option.map_some]
theorem set_ow {f : PEv} {E E1 : List Sl} {ds : List PyData} {i : Nat} (h : f E = some (.ow ds, E1)) (hi : i < E1.length) : pSet i f E = some (E1.set i (.ow ds), .nx) := by
  simp only [pSet, h, Option.bind_some, PL.settle, Sl.isAl, Bool.false_eq_true, if_false, hi, if_true, Option.map_some]
theorem lst_add {ds es : List PyData} {E : List Sl} {f g : PEv} (hf : f E = some (.sh (.list ds), E)) (hg : g E = some (.sh (.list es), E)) (fl : flatA (ds ++ es) = true) (ll : (ds ++ es).length ≤ 1000000) : pBin pAdd false f g E = some (.ow (ds ++ es), E) := by
  have ll' : ds.length + es.length ≤ 1000000 := by simpa using ll
  simp only [pBin, hf, hg, Option.bind_some, Bool.false_and, Bool.false_eq_true, if_false, pAdd, look, Sl.val, hot, hot1, fl, ll, ll', and_self, if_true, List.length_append, decide_true, Bool.and_self, Bool.true_and, Bool.and_true, Bool.or_self, Bool.true_or, Bool.not_false, frz, Option.map_some]
theorem pc_bits_b0 : ∀ (F : List (List Nat)) (x : Sl), cLoop t_both_rules_C0 tYesP e_both_rules_C0 (F.map txD) [x] = some (F.map bitD)
  | [], x => rfl
  | v :: F, x => by
    have t : t_both_rules_C0 (txD v) [x] = some [.sh (txD v)] := rfl
    have e : e_both_rules_C0 [.sh (txD v)] = some (.sh (.int (NH.bitsW v)), [.sh (txD v)]) := call_at (ss := [.sh (txD v)]) rfl rfl (pv_bits_of v)
    exact cl_cons t e (pc_bits_b0 F _)
theorem pc_bits_b1 : ∀ (F : List (List Nat)) (x : Sl), cLoop t_both_rules_C1 tYesP e_both_rules_C1 (F.map txD) [x] = some (F.map bitD)
  | [], x => rfl
  | v :: F, x => by
    have t : t_both_rules_C1 (txD v) [x] = some [.sh (txD v)] := rfl
    have e : e_both_rules_C1 [.sh (txD v)] = some (.sh (.int (NH.bitsW v)), [.sh (txD v)]) := call_at (ss := [.sh (txD v)]) rfl rfl (pv_bits_of v)
    exact cl_cons t e (pc_bits_b1 F _)
theorem c_up {K : List (List Nat)} (hK : ∀ k ∈ K, NH.Ltrs k) (v : List Nat) : pTru (pCall fn_has_part_among (aCons false (pCall fn_bits_of (aCons false (pVar 0) aNil)) (aCons false (pVar 1) aNil))) [.sh (txD v), .sh (.list (K.map bitD))] = some (NhFam.upB K v, [.sh (txD v), .sh (.list (K.map bitD))]) := by
  have c1 : pCall fn_bits_of (aCons false (pVar 0) aNil) [.sh (txD v), .sh (.list (K.map bitD))] = some (.sh (.int (NH.bitsW v)), [.sh (txD v), .sh (.list (K.map bitD))]) := call_at (ss := [.sh (txD v)]) rfl rfl (pv_bits_of v)
  have pm := pv_part (NH.bitsW v) (K.map NH.bitsW)
  rw [← bitD_map, any_part hK v] at pm
  have c2 : pCall fn_has_part_among (aCons false (pCall fn_bits_of (aCons false (pVar 0) aNil)) (aCons false (pVar 1) aNil)) [.sh (txD v), .sh (.list (K.map bitD))] = some (.sh (.bool (NhFam.upB K v)), [.sh (txD v), .sh (.list (K.map bitD))]) := call_at (ss := [.sh (.int (NH.bitsW v)), .sh (.list (K.map bitD))]) (by simp only [aCons, aNil, c1, Option.bind_some, Option.map_some, Bool.false_and, Bool.false_eq_true, if_false, pVar, List.getElem?_cons_succ, List.getElem?_cons_zero]) rfl pm
  simp only [pTru, c2, Option.bind_some, look, Sl.val, dTru, Option.map_some]
theorem pc_up2 {K : List (List Nat)} (hK : ∀ k ∈ K, NH.Ltrs k) : ∀ (F : List (List Nat)) (x : Sl), cLoop t_both_rules_C2 c_both_rules_C2 e_both_rules_C2 (F.map txD) [x, .sh (.list (K.map bitD))] = some ((F.filter (NhFam.upB K)).map txD)
  | [], x => rfl
  | v :: F, x => by
    have t : t_both_rules_C2 (txD v) [x, .sh (.list (K.map bitD))] = some [.sh (txD v), .sh (.list (K.map bitD))] := rfl
    have el : e_both_rules_C2 [.sh (txD v), .sh (.list (K.map bitD))] = some (.sh (txD v), [.sh (txD v), .sh (.list (K.map bitD))]) := rfl
    rw [List.map_cons, cl_if t (show c_both_rules_C2 _ = _ from c_up hK v) el (pc_up2 hK F _), List.filter_cons]
    split <;> rfl
theorem pc_up3 {K : List (List Nat)} (hK : ∀ k ∈ K, NH.Ltrs k) : ∀ (F : List (List Nat)) (x : Sl), cLoop t_both_rules_C3 c_both_rules_C3 e_both_rules_C3 (F.map txD) [x, .sh (.list (K.map bitD))] = some ((F.filter (NhFam.upB K)).map txD)
  | [], x => rfl
  | v :: F, x => by
    have t : t_both_rules_C3 (txD v) [x, .sh (.list (K.map bitD))] = some [.sh (txD v), .sh (.list (K.map bitD))] := rfl
    have el : e_both_rules_C3 [.sh (txD v), .sh (.list (K.map bitD))] = some (.sh (txD v), [.sh (txD v), .sh (.list (K.map bitD))]) := rfl
    rw [List.map_cons, cl_if t (show c_both_rules_C3 _ = _ from c_up hK v) el (pc_up3 hK F _), List.filter_cons]
    split <;> rfl
theorem pv_both_rules {U : List Nat} {F G : List (List Nat)} (u : Uni U) (h : Fam U F) (k : Fam U G) : fn_both_rules [.list (F.map txD), .list (G.map txD)] = some (.ow ((NhFam.bothT F G (inOrd (F ++ G).flatten)).map txD)) := by
  have hs : ∀ v ∈ F ++ G, NhFam.Sub U v := fun v hv => (List.mem_append.mp hv).elim (h.sub v) (k.sub v)
  have hl : (F ++ G).length ≤ 150 := by have := h.len; have := k.len; simp; omega
  have hV := nails_sub u hs
  have uV := u.small hV
  have hK : ∀ k ∈ F, NH.Ltrs k := fun k hk => u.ltrs (h.sub k hk)
  have hK2 : ∀ k ∈ G, NH.Ltrs k := fun k' hk => u.ltrs (k.sub k' hk)
  generalize eV : inOrd (F ++ G).flatten = V at hV uV
  have nv := pv_nails_among u hs hl
  rw [eV] at nv
  have a0 : pBin pAdd false (pVar 0) (pVar 1) [.sh (.list (F.map txD)), .sh (.list (G.map txD)), .no, .no, .no, .no] = some (.ow ((F ++ G).map txD), [.sh (.list (F.map txD)), .sh (.list (G.map txD)), .no, .no, .no, .no]) := by
    rw [List.map_append]
    exact lst_add rfl rfl (by rw [← List.map_append]; exact flat_txD _) (by simp at hl ⊢; omega)
  have c1 : pCall fn_nails_among (aCons false (pBin pAdd false (pVar 0) (pVar 1)) aNil) [.sh (.list (F.map txD)), .sh (.list (G.map txD)), .no, .no, .no, .no] = some (.sh (txD V), [.sh (.list (F.map txD)), .sh (.list (G.map txD)), .no, .no, .no, .no]) := call_at (ss := [.ow ((F ++ G).map txD)]) (by simp only [aCons, aNil, a0, Option.bind_some, Option.map_some, Bool.false_and, Bool.false_eq_true, if_false]) rfl nv
  have s1 : pSet 2 (pCall fn_nails_among (aCons false (pBin pAdd false (pVar 0) (pVar 1)) aNil)) [.sh (.list (F.map txD)), .sh (.list (G.map txD)), .no, .no, .no, .no] = some ([.sh (.list (F.map txD)), .sh (.list (G.map txD)), .sh (txD V), .no, .no, .no], .nx) := set_sh c1 (show 2 < 6 by decide)
  have s2 : pExpr (pCall fn_check_many (aCons false (pVar 2) aNil)) [.sh (.list (F.map txD)), .sh (.list (G.map txD)), .sh (txD V), .no, .no, .no] = some ([.sh (.list (F.map txD)), .sh (.list (G.map txD)), .sh (txD V), .no, .no, .no], .nx) := expr_at (call_at (ss := [.sh (txD V)]) rfl rfl (pv_check_many (by have := uV.len; omega)))
  have p3 : pComp [none] (iAny (pVar 0)) t_both_rules_C0 tYesP e_both_rules_C0 [.sh (.list (F.map txD)), .sh (.list (G.map txD)), .sh (txD V), .no, .no, .no] = some (.ow (F.map bitD), [.sh (.list (F.map txD)), .sh (.list (G.map txD)), .sh (txD V), .no, .no, .no]) := comp_at rfl (pc_bits_b0 _ _) (flat_bitD _) (by have := h.len; simp; omega)
  have s3 : pSet 3 (pComp [none] (iAny (pVar 0)) t_both_rules_C0 tYesP e_both_rules_C0) [.sh (.list (F.map txD)), .sh (.list (G.map txD)), .sh (txD V), .no, .no, .no] = some ([.sh (.list (F.map txD)), .sh (.list (G.map txD)), .sh (txD V), .ow (F.map bitD), .no, .no], .nx) := set_ow p3 (show 3 < 6 by decide)
  have p4 : pComp [none] (iAny (pVar 1)) t_both_rules_C1 tYesP e_both_rules_C1 [.sh (.list (F.map txD)), .sh (.list (G.map txD)), .sh (txD V), .ow (F.map bitD), .no, .no] = some (.ow (G.map bitD), [.sh (.list (F.map txD)), .sh (.list (G.map txD)), .sh (txD V), .ow (F.map bitD), .no, .no]) := comp_at rfl (pc_bits_b1 _ _) (flat_bitD _) (by have := k.len; simp; omega)
  have s4 : pSet 4 (pComp [none] (iAny (pVar 1)) t_both_rules_C1 tYesP e_both_rules_C1) [.sh (.list (F.map txD)), .sh (.list (G.map txD)), .sh (txD V), .ow (F.map bitD), .no, .no] = some ([.sh (.list (F.map txD)), .sh (.list (G.map txD)), .sh (txD V), .ow (F.map bitD), .ow (G.map bitD), .no], .nx) := set_ow p4 (show 4 < 6 by decide)
  have c5 : pCall fn_all_sets (aCons false (pVar 2) aNil) [.sh (.list (F.map txD)), .sh (.list (G.map txD)), .sh (txD V), .ow (F.map bitD), .ow (G.map bitD), .no] = some (.ow ((allS V).map txD), [.sh (.list (F.map txD)), .sh (.list (G.map txD)), .sh (txD V), .ow (F.map bitD), .ow (G.map bitD), .no]) := call_at (ss := [.sh (txD V)]) rfl rfl (pv_all _ (by have := uV.len; omega))
  have i5 : iAny (pCall fn_all_sets (aCons false (pVar 2) aNil)) [.sh (.list (F.map txD)), .sh (.list (G.map txD)), .sh (txD V), .ow (F.map bitD), .ow (G.map bitD), .no] = some ((NhFam.allT V).map txD, [.sh (.list (F.map txD)), .sh (.list (G.map txD)), .sh (txD V), .ow (F.map bitD), .ow (G.map bitD), .no]) := by
    unfold iAny
    rw [c5]
    rfl
  have fm := all_fit uV (NhFam.upB F)
  have p5 : pComp [none, some 3] (iAny (pCall fn_all_sets (aCons false (pVar 2) aNil))) t_both_rules_C2 c_both_rules_C2 e_both_rules_C2 [.sh (.list (F.map txD)), .sh (.list (G.map txD)), .sh (txD V), .ow (F.map bitD), .ow (G.map bitD), .no] = some (.ow (((NhFam.allT V).filter (NhFam.upB F)).map txD), [.sh (.list (F.map txD)), .sh (.list (G.map txD)), .sh (txD V), .ow (F.map bitD), .ow (G.map bitD), .no]) := comp_at i5 (pc_up2 hK _ _) (flat_txD _) (by have := fm.len; simp; omega)
  have s5 : pSet 5 (pComp [none, some 3] (iAny (pCall fn_all_sets (aCons false (pVar 2) aNil))) t_both_rules_C2 c_both_rules_C2 e_both_rules_C2) [.sh (.list (F.map txD)), .sh (.list (G.map txD)), .sh (txD V), .ow (F.map bitD), .ow (G.map bitD), .no] = some ([.sh (.list (F.map txD)), .sh (.list (G.map txD)), .sh (txD V), .ow (F.map bitD), .ow (G.map bitD), .ow (((NhFam.allT V).filter (NhFam.upB F)).map txD)], .nx) := set_ow p5 (show 5 < 6 by decide)
  have fm2 : Fam V (((NhFam.allT V).filter (NhFam.upB F)).filter (NhFam.upB G)) := ⟨fun v hv => fm.sub v (List.mem_filter.mp hv).1, Nat.lt_of_le_of_lt (List.length_filter_le _ _) fm.len⟩
  have i6 : iAny (pVar 5) [.sh (.list (F.map txD)), .sh (.list (G.map txD)), .sh (txD V), .ow (F.map bitD), .ow (G.map bitD), .ow (((NhFam.allT V).filter (NhFam.upB F)).map txD)] = some (((NhFam.allT V).filter (NhFam.upB F)).map txD, [.sh (.list (F.map txD)), .sh (.list (G.map txD)), .sh (txD V), .ow (F.map bitD), .ow (G.map bitD), .sh (.list (((NhFam.allT V).filter (NhFam.upB F)).map txD))]) := rfl
  have p6 : pComp [none, some 4] (iAny (pVar 5)) t_both_rules_C3 c_both_rules_C3 e_both_rules_C3 [.sh (.list (F.map txD)), .sh (.list (G.map txD)), .sh (txD V), .ow (F.map bitD), .ow (G.map bitD), .ow (((NhFam.allT V).filter (NhFam.upB F)).map txD)] = some (.ow ((((NhFam.allT V).filter (NhFam.upB F)).filter (NhFam.upB G)).map txD), [.sh (.list (F.map txD)), .sh (.list (G.map txD)), .sh (txD V), .ow (F.map bitD), .ow (G.map bitD), .sh (.list (((NhFam.allT V).filter (NhFam.upB F)).map txD))]) := comp_at i6 (pc_up3 hK2 _ _) (flat_txD _) (by have := fm2.len; rw [List.length_map]; omega)
  have c7 : pCall fn_least_of (aCons false (pComp [none, some 4] (iAny (pVar 5)) t_both_rules_C3 c_both_rules_C3 e_both_rules_C3) aNil) [.sh (.list (F.map txD)), .sh (.list (G.map txD)), .sh (txD V), .ow (F.map bitD), .ow (G.map bitD), .ow (((NhFam.allT V).filter (NhFam.upB F)).map txD)] = some (.ow ((NhFam.bothT F G V).map txD), [.sh (.list (F.map txD)), .sh (.list (G.map txD)), .sh (txD V), .ow (F.map bitD), .ow (G.map bitD), .sh (.list (((NhFam.allT V).filter (NhFam.upB F)).map txD))]) := call_at (ss := [.ow ((((NhFam.allT V).filter (NhFam.upB F)).filter (NhFam.upB G)).map txD)]) (by simp only [aCons, aNil, p6, Option.bind_some, Option.map_some, Bool.false_and, Bool.false_eq_true, if_false]) rfl (pv_least_of (fm2.fit uV))
  have g : fn_both_rules [.list (F.map txD), .list (G.map txD)] = (g_both_rules [.sh (.list (F.map txD)), .sh (.list (G.map txD)), .no, .no, .no, .no]).bind fun a => match a.2 with | .rt r => outS r | .nx => some (.sh .none) | _ => none := rfl
  have fl := flat_txD (NhFam.bothT F G V)
  rw [g, g_both_rules, seq_nx s1, seq_nx s2, seq_nx s3, seq_nx s4, seq_nx s5]
  simp only [pRet, c7, Option.map_some, Option.bind_some, outS, Clean, fl, if_true]
theorem pv_either_rule {U : List Nat} {F G : List (List Nat)} (u : Uni U) (h : Fam U F) (k : Fam U G) (hl : F.length + G.length < 64) : fn_either_rule [.list (F.map txD), .list (G.map txD)] = some (.ow ((NhFam.leastT (F ++ G)).map txD)) := by
  have hs : ∀ v ∈ F ++ G, NhFam.Sub U v := fun v hv => (List.mem_append.mp hv).elim (h.sub v) (k.sub v)
  have hl2 : (F ++ G).length ≤ 150 := by simp; omega
  have uV := u.small (nails_sub u hs)
  have nv := pv_nails_among u hs hl2
  have a0 : pBin pAdd false (pVar 0) (pVar 1) [.sh (.list (F.map txD)), .sh (.list (G.map txD))] = some (.ow ((F ++ G).map txD), [.sh (.list (F.map txD)), .sh (.list (G.map txD))]) := by
    rw [List.map_append]
    exact lst_add rfl rfl (by rw [← List.map_append]; exact flat_txD _) (by simp; omega)
  have ag : aCons false (pBin pAdd false (pVar 0) (pVar 1)) aNil [.sh (.list (F.map txD)), .sh (.list (G.map txD))] = some ([.ow ((F ++ G).map txD)], [.sh (.list (F.map txD)), .sh (.list (G.map txD))]) := by simp only [aCons, aNil, a0, Option.bind_some, Option.map_some, Bool.false_and, Bool.false_eq_true, if_false]
  have c1 : pCall fn_nails_among (aCons false (pBin pAdd false (pVar 0) (pVar 1)) aNil) [.sh (.list (F.map txD)), .sh (.list (G.map txD))] = some (.sh (txD (inOrd (F ++ G).flatten)), [.sh (.list (F.map txD)), .sh (.list (G.map txD))]) := call_at ag rfl nv
  have s1 : pExpr (pCall fn_check_many (aCons false (pCall fn_nails_among (aCons false (pBin pAdd false (pVar 0) (pVar 1)) aNil)) aNil)) [.sh (.list (F.map txD)), .sh (.list (G.map txD))] = some ([.sh (.list (F.map txD)), .sh (.list (G.map txD))], .nx) := expr_at (call_at (ss := [.sh (txD (inOrd (F ++ G).flatten))]) (by simp only [aCons, aNil, c1, Option.bind_some, Option.map_some, Bool.false_and, Bool.false_eq_true, if_false]) rfl (pv_check_many (by have := uV.len; omega)))
  have fit : Fit (F ++ G) := ⟨by simp; omega, fun w hw => ⟨u.ltrs (hs w hw), by have := u.short (hs w hw); omega⟩⟩
  have c2 : pCall fn_least_of (aCons false (pBin pAdd false (pVar 0) (pVar 1)) aNil) [.sh (.list (F.map txD)), .sh (.list (G.map txD))] = some (.ow ((NhFam.leastT (F ++ G)).map txD), [.sh (.list (F.map txD)), .sh (.list (G.map txD))]) := call_at ag rfl (pv_least_of fit)
  have g : fn_either_rule [.list (F.map txD), .list (G.map txD)] = (g_either_rule [.sh (.list (F.map txD)), .sh (.list (G.map txD))]).bind fun a => match a.2 with | .rt r => outS r | .nx => some (.sh .none) | _ => none := rfl
  have fl := flat_txD (NhFam.leastT (F ++ G))
  rw [g, g_either_rule, seq_nx s1]
  simp only [pRet, c2, Option.map_some, Option.bind_some, outS, Clean, fl, if_true]
theorem sortS_one {w : List Nat} (n : w.Nodup) (a : ∀ y ∈ w, az y) : sortS (w.map oneS) = (inOrd w).map oneS := by
  refine (List.Perm.eq_of_pairwise (fun _ _ _ _ h k => leS_anti h k) (inOrd_sorted w) (List.pairwise_mergeSort leS_trans leS_total _) ?_).symm
  refine List.Perm.trans ?_ (List.mergeSort_perm _ _).symm
  refine nodup_perm (nodup_oneS (inOrd_nodup w)) (nodup_oneS n) fun y => ?_
  constructor
  · intro h
    obtain ⟨a, ha, rfl⟩ := List.mem_map.mp h
    exact List.mem_map.mpr ⟨a, (inOrd_mem.mp ha).2, rfl⟩
  · intro h
    obtain ⟨b, hb, rfl⟩ := List.mem_map.mp h
    exact List.mem_map.mpr ⟨b, inOrd_mem.mpr ⟨az_mem (a b hb), hb⟩, rfl⟩
theorem inOrd_count {w : List Nat} (n : w.Nodup) (a : ∀ y ∈ w, az y) : (inOrd w).length = w.length :=
  (nodup_perm (inOrd_nodup w) n fun y => ⟨fun h => (inOrd_mem.mp h).2, fun h => inOrd_mem.mpr ⟨az_mem (a y h), h⟩⟩).length_eq
noncomputable def ixs (U : List Nat) (m lo : Nat) : List Nat → List Nat
  | [] => []
  | x :: r => if (m >>> lo) % 2 = 1 then x :: ixs U m (lo + 1) r else ixs U m (lo + 1) r
theorem ixs_setM (U : List Nat) (m : Nat) : ∀ (r : List Nat) (lo : Nat), ixs U m lo r = NhFam.setM r (m >>> lo)
  | [], _ => rfl
  | x :: r, lo => by
    rw [ixs, NhFam.setM, ixs_setM U m r (lo + 1), Nat.shiftRight_succ]
theorem shr_at {E : List Sl} {f g : PEv} {x y : Nat} (hf : f E = some (.sh (.int x), E)) (hg : g E = some (.sh (.int y), E)) : pBin pShr false f g E = some (.sh (.int ((x >>> y : Nat) : Int)), E) := by
  have e : (x : Int) / 2 ^ y = ((x >>> y : Nat) : Int) := by
    rw [Nat.shiftRight_eq_div_pow]
    push_cast
    rfl
  have h0 : (0 : Int) ≤ (y : Int) := Int.natCast_nonneg _
  simp only [pBin, hf, hg, Option.bind_some, Bool.false_and, Bool.false_eq_true, if_false, pShr, sc2, iOp, look, Sl.val, h0, decide_true, if_true, Option.map_some, Int.toNat_natCast, e]
theorem e_set_at (U : List Nat) (m lo x : Nat) (h : U[lo]? = some x) : e_law_set_C0 [.sh (.int lo), .sh (.list (U.map stD)), .sh (.int m)] = some (.sh (stD x), [.sh (.int lo), .sh (.list (U.map stD)), .sh (.int m)]) := by
  have a : atI (U.map stD) (lo : Int) = some (stD x) := by rw [atI_nat', List.getElem?_map, h]; rfl
  simp only [e_law_set_C0, pBin, pVar, List.getElem?_cons_succ, List.getElem?_cons_zero, Sl.isBr, Bool.false_and, Bool.false_eq_true, pIx, look, Sl.val, hot, hot1, if_false, Option.bind_some, a, stD, Option.map_some]
theorem c_set_at (U : List Nat) (m lo : Nat) (y : Sl) : c_law_set_C0 [.sh (.int lo), y, .sh (.int m)] = some (decide ((m >>> lo) % 2 = 1), [.sh (.int lo), y, .sh (.int m)]) := by
  have a := shr_at (E := [.sh (.int lo), y, .sh (.int m)]) (f := pVar 2) (g := pVar 0) (x := m) (y := lo) rfl rfl
  have b := and_at (f := pBin pShr false (pVar 2) (pVar 0)) (g := pC (.int 1)) (x := m >>> lo) (y := 1) a rfl
  have e := eq_at b (show pC (.int 1) [.sh (.int lo), y, .sh (.int m)] = some (.sh (.int 1), [.sh (.int lo), y, .sh (.int m)]) from rfl)
  unfold c_law_set_C0
  rw [e, Nat.and_one_is_mod]
  congr 2
  exact decide_eq_decide.mpr (by omega)
theorem pc_set (U : List Nat) (m : Nat) : ∀ (r : List Nat) (lo : Nat) (x : Sl), (∀ i, r[i]? = U[lo + i]?) → cLoop t_law_set_C0 c_law_set_C0 e_law_set_C0 (rngD lo r.length) [x, .sh (.list (U.map stD)), .sh (.int m)] = some ((ixs U m lo r).map stD)
  | [], lo, x, _ => rfl
  | y :: r, lo, x, h => by
    have h0 : U[lo]? = some y := by have := h 0; simpa using this.symm
    have ih := pc_set U m r (lo + 1) (.sh (.int lo)) (fun i => by have := h (i + 1); rw [List.getElem?_cons_succ] at this; rw [this]; congr 1; omega)
    have t : t_law_set_C0 (.int lo) [x, .sh (.list (U.map stD)), .sh (.int m)] = some [.sh (.int lo), .sh (.list (U.map stD)), .sh (.int m)] := rfl
    rw [show ((lo + 1 : Nat) : Int) = (lo : Int) + 1 by omega] at ih
    rw [List.length_cons, rngD_succ, cl_if t (c_set_at U m lo _) (e_set_at U m lo y h0) ih, ixs]
    by_cases q : (m >>> lo) % 2 = 1
    · simp only [q, decide_true, if_true, List.map_cons]
    · simp only [q, decide_false, Bool.false_eq_true, if_false]
theorem pv_law_set (U : List Nat) (m : Nat) (hl : U.length ≤ 1000) : fn_law_set [.int m, .list (U.map stD)] = some (.sh (txD (NhFam.setM U m))) := by
  have e := pc_set U m U 0 .no (fun i => by rw [Nat.zero_add])
  rw [ixs_setM, Nat.shiftRight_zero] at e
  have o1 : (-1000000 : Int) ≤ (U.length : Int) := by omega
  have o2 : (U.length : Int) ≤ 1000000 := by omega
  have lb : U.length ≤ 1000000 := by omega
  have it : iRng1P (aCons false (pCaS dLen (aCons false (pVar 1) aNil)) aNil) [.sh (.int m), .sh (.list (U.map stD))] = some (rngD 0 U.length, [.sh (.int m), .sh (.list (U.map stD))]) := by
    simp only [iRng1P, aCons, pCaS, pVar, List.getElem?_cons_succ, List.getElem?_cons_zero, Sl.isBr, Bool.false_and, Bool.false_eq_true, aNil, Option.map_some, if_false, Option.bind_some, dLen, lookA, look, Sl.val, List.length_map, o1, o2, and_self, Int.toNat_natCast, if_true]
  have ll : (NhFam.setM U m).length ≤ 1000000 := Nat.le_trans (NhFam.setM_sub U m).length_le lb
  have p : pComp [none, some 1, some 0] (iRng1P (aCons false (pCaS dLen (aCons false (pVar 1) aNil)) aNil)) t_law_set_C0 c_law_set_C0 e_law_set_C0 [.sh (.int m), .sh (.list (U.map stD))] = some (.ow ((NhFam.setM U m).map stD), [.sh (.int m), .sh (.list (U.map stD))]) := comp_at it e (flat_stD _) (by rw [List.length_map]; exact ll)
  have l := len_one (NhFam.setM U m)
  have j := join_one (NhFam.setM U m)
  have a : pJoin "" (pComp [none, some 1, some 0] (iRng1P (aCons false (pCaS dLen (aCons false (pVar 1) aNil)) aNil)) t_law_set_C0 c_law_set_C0 e_law_set_C0) [.sh (.int m), .sh (.list (U.map stD))] = some (.sh (.str ⟨(NhFam.setM U m).toArray⟩), [.sh (.int m), .sh (.list (U.map stD))]) := by
    simp only [pJoin, pUn, dJoin, p, Option.bind_some, look, Sl.val, strsOf_one', l, ll, if_true, Option.map_some, j]
  have fx : flat (PyData.str ⟨(NhFam.setM U m).toArray⟩) = true := rfl
  simp only [fn_law_set, g_law_set, fnB, runB, startE, pRet, a, Option.bind_some, Option.map_some, outS, Clean, fx, if_true, List.length_cons, List.length_nil, Nat.sub_self, List.replicate, List.map_cons, List.map_nil, List.append_nil, Nat.zero_add, Nat.reduceAdd, txD]
theorem pc_texts {U : List Nat} (hl : U.length ≤ 1000) : ∀ (D : List Nat) (x : Sl), cLoop t_law_texts_C0 tYesP e_law_texts_C0 (D.map natD) [x, .sh (.list (U.map stD))] = some ((D.map (NhFam.setM U)).map txD)
  | [], x => rfl
  | m :: D, x => by
    have t : t_law_texts_C0 (natD m) [x, .sh (.list (U.map stD))] = some [.sh (.int m), .sh (.list (U.map stD))] := rfl
    have e : e_law_texts_C0 [.sh (.int m), .sh (.list (U.map stD))] = some (.sh (txD (NhFam.setM U m)), [.sh (.int m), .sh (.list (U.map stD))]) := call_at (ss := [.sh (.int m), .sh (.list (U.map stD))]) rfl rfl (pv_law_set U m hl)
    exact cl_cons t e (pc_texts hl D _)
theorem pv_law_texts {U : List Nat} (u : Uni U) (D : List Nat) (hD : D.length < 60) : fn_law_texts [.list (D.map natD), .list (U.map stD)] = some (.ow ((NhFam.sortT (D.map (NhFam.setM U))).map txD)) := by
  have hl : U.length ≤ 1000 := by have := u.len; omega
  have p : pComp [none, some 1] (iAny (pVar 0)) t_law_texts_C0 tYesP e_law_texts_C0 [.sh (.list (D.map natD)), .sh (.list (U.map stD))] = some (.ow ((D.map (NhFam.setM U)).map txD), [.sh (.list (D.map natD)), .sh (.list (U.map stD))]) := comp_at rfl (pc_texts hl D _) (flat_txD _) (by simp; omega)
  have fit : Fit (D.map (NhFam.setM U)) := ⟨by rw [List.length_map]; omega, fun w hw => by
    obtain ⟨m, _, rfl⟩ := List.mem_map.mp hw
    have s := NhFam.setM_Sub u.srt m
    exact ⟨u.ltrs s, by have := u.short s; omega⟩⟩
  have a : pSortK (pComp [none, some 1] (iAny (pVar 0)) t_law_texts_C0 tYesP e_law_texts_C0) [.sh (.list (D.map natD)), .sh (.list (U.map stD))] = some (.ow ((NhFam.sortT (D.map (NhFam.setM U))).map txD), [.sh (.list (D.map natD)), .sh (.list (U.map stD))]) := by
    unfold pSortK
    simp only [p, Option.bind_some, look, Sl.val, strsL_tx, fit.chk, if_true, sortK_tx, map_txD]
  have fl := flat_txD (NhFam.sortT (D.map (NhFam.setM U)))
  simp only [fn_law_texts, g_law_texts, fnB, runB, startE, pRet, a, Option.bind_some, Option.map_some, outS, Clean, fl, if_true, List.length_cons, List.length_nil, Nat.sub_self, List.replicate, List.map_cons, List.map_nil, List.append_nil, Nat.zero_add, Nat.reduceAdd]
theorem ints_nat : ∀ l : List Nat, intsOf (l.map natD) = some (l.map fun n : Nat => (n : Int))
  | [] => rfl
  | a :: l => by
    show (intsOf (l.map natD)).map ((a : Int) :: ·) = _
    rw [ints_nat l]
    rfl
theorem contains_nat (l : List Nat) (m : Nat) : (l.map fun n : Nat => (n : Int)).contains (m : Int) = decide (m ∈ l) := by
  rw [Bool.eq_iff_iff]
  simp only [List.contains_eq_mem, decide_eq_true_eq, List.mem_map]
  constructor
  · rintro ⟨a, ha, e⟩
    have : a = m := by omega
    rw [← this]
    exact ha
  · intro h
    exact ⟨m, h, rfl⟩
theorem nin_at {E : List Sl} {m : Nat} {K : List Nat} {i : Nat} (f : PEv) (hf : f E = some (.sh (.int m), E)) (hi : E[i]? = some (.ow (K.map natD))) : isB (pBin (pIn true) false f (pVar i)) E = some (!decide (m ∈ K), E) := by
  have d : dIn (.int m) (.list (K.map natD)) = some (decide (m ∈ K)) := by
    show (intsOf (K.map natD)).map _ = _
    rw [ints_nat, Option.map_some, contains_nat]
  have e : look E (.al i) = some (.list (K.map natD)) := by simp only [look, hi, Option.bind_some, Sl.val]
  have e0 : look E (.sh (.int m)) = some (.int m) := rfl
  simp only [isB, pBin, pIn, sc2, hf, pVar, hi, Option.bind_some, e, e0, d, Option.map_some, Bool.false_and, Bool.false_eq_true, if_false, if_true]
theorem nat_lay : ∀ l : List Nat, PyData.canLayAll0 (l.map natD) = true ∧ PyData.depthAll (l.map natD) = 0
  | [] => by simp [PyData.canLayAll0, PyData.depthAll]
  | a :: l => by
    obtain ⟨x, y⟩ := nat_lay l
    have h1 : (natD a).canLay0 = true := by simp [natD, PyData.canLay0]
    have h2 : (natD a).depth = 0 := by simp [natD, PyData.depth]
    simp only [List.map_cons, PyData.canLayAll0, PyData.depthAll, h1, h2, x, y, Bool.and_self, true_and]
    rfl
theorem nat_shaped (l : List Nat) : SeqAt.shaped (.list (l.map natD)) = true := by
  obtain ⟨x, y⟩ := nat_lay l
  unfold SeqAt.shaped
  simp only [PyData.canLay0, PyData.depth, x, y, Bool.true_and]
  decide
theorem dEq_nat_nil (l : List Nat) : dEq (.list (l.map natD)) (.list []) = some (decide (l = [])) := by
  have e : dEq (.list (l.map natD)) (.list []) = (if SeqAt.shaped (.list (l.map natD)) && SeqAt.shaped (.list []) then some (PyData.eqv (.list (l.map natD)) (.list [])) else none) := rfl
  rw [e, nat_shaped, show SeqAt.shaped (.list []) = true from nat_shaped []]
  cases l with
  | nil => rfl
  | cons a l => simp [PyData.eqv, PyData.eqvAll]
noncomputable def smaller (M : List Nat) (m : Nat) : List Nat := M.filter fun k => decide (k &&& m = k) && !decide (k = m)
theorem c_least_at (k m : Nat) : c_law_least_C1 [.sh (.int k), .sh (.int m)] = some (decide (k &&& m = k) && !decide (k = m), [.sh (.int k), .sh (.int m)]) := by
  have b := and_at (E := [.sh (.int k), .sh (.int m)]) (f := pVar 0) (g := pVar 1) (x := k) (y := m) rfl rfl
  have e := eq_at b (show pVar 0 [.sh (.int k), .sh (.int m)] = some (.sh (.int k), [.sh (.int k), .sh (.int m)]) from rfl)
  have n : isB (pBin pNe false (pVar 0) (pVar 1)) [.sh (.int k), .sh (.int m)] = some (!decide (k = m), [.sh (.int k), .sh (.int m)]) := by
    have := bin_ne (E := [.sh (.int k), .sh (.int m)]) (g := pVar 0) (f := pVar 1) (x := k) (y := m) rfl rfl
    simp only [isB, this, Option.bind_some]
    congr 2
    exact congrArg not (decide_eq_decide.mpr (by omega))
  unfold c_law_least_C1
  have e' : decide (((k &&& m : Nat) : Int) = (k : Int)) = decide (k &&& m = k) := decide_eq_decide.mpr (by omega)
  rw [e'] at e
  cases h : decide (k &&& m = k) with
  | true => rw [h] at e; simp only [tAndP, e, Option.bind_some, if_true, n, Bool.true_and]
  | false => rw [h] at e; simp only [tAndP, e, Option.bind_some, Bool.false_eq_true, if_false, Bool.false_and]
theorem pc_least_c (m : Nat) : ∀ (M : List Nat) (x : Sl), cLoop t_law_least_C1 c_law_least_C1 e_law_least_C1 (M.map natD) [x, .sh (.int m)] = some ((smaller M m).map natD)
  | [], x => rfl
  | k :: M, x => by
    have t : t_law_least_C1 (natD k) [x, .sh (.int m)] = some [.sh (.int k), .sh (.int m)] := rfl
    have el : e_law_least_C1 [.sh (.int k), .sh (.int m)] = some (.sh (natD k), [.sh (.int k), .sh (.int m)]) := rfl
    rw [List.map_cons, cl_if t (c_least_at k m) el (pc_least_c m M _)]
    have e : smaller (k :: M) m = if decide (k &&& m = k) && !decide (k = m) then k :: smaller M m else smaller M m := by
      unfold smaller
      rw [List.filter_cons]
    rw [e]
    cases decide (k &&& m = k) && !decide (k = m) <;> rfl
noncomputable def leD (M K : List Nat) : List Nat → List Nat
  | [] => K
  | m :: r => if smaller M m = [] ∧ m ∉ K then leD M (K ++ [m]) r else leD M K r
theorem leD_spec (M : List Nat) : ∀ (r K : List Nat), K.Nodup → (leD M K r).Nodup ∧ ∀ m, m ∈ leD M K r ↔ m ∈ K ∨ (m ∈ r ∧ smaller M m = [])
  | [], K, h => ⟨h, fun m => by simp [leD]⟩
  | x :: r, K, h => by
    by_cases c : smaller M x = [] ∧ x ∉ K
    · rw [leD, if_pos c]
      obtain ⟨a, b⟩ := leD_spec M r (K ++ [x]) (by
        refine List.nodup_append.mpr ⟨h, by simp, fun p hp q hq e => ?_⟩
        rw [List.mem_singleton.mp hq] at e
        subst e
        exact c.2 hp)
      refine ⟨a, fun m => (b m).trans ?_⟩
      constructor
      · rintro (q | q)
        · rcases List.mem_append.mp q with z | z
          · exact .inl z
          · rw [List.mem_singleton.mp z]; exact .inr ⟨by simp, c.1⟩
        · exact .inr ⟨List.mem_cons_of_mem _ q.1, q.2⟩
      · rintro (q | ⟨q, s⟩)
        · exact .inl (by simp [q])
        · rcases List.mem_cons.mp q with z | z
          · exact .inl (by simp [z])
          · exact .inr ⟨z, s⟩
    · rw [leD, if_neg c]
      obtain ⟨a, b⟩ := leD_spec M r K h
      refine ⟨a, fun m => (b m).trans ?_⟩
      constructor
      · rintro (q | q)
        · exact .inl q
        · exact .inr ⟨List.mem_cons_of_mem _ q.1, q.2⟩
      · rintro (q | ⟨q, s⟩)
        · exact .inl q
        · rcases List.mem_cons.mp q with z | z
          · subst z
            exact .inl (Classical.byContradiction fun n => c ⟨s, n⟩)
          · exact .inr ⟨z, s⟩
theorem leD_least (M : List Nat) : NhFam.LeastM M (leD M [] M) := by
  obtain ⟨a, b⟩ := leD_spec M M [] List.nodup_nil
  refine ⟨a, fun m => (b m).trans ?_⟩
  have : smaller M m = [] ↔ ∀ k ∈ M, k &&& m = k → k = m := by
    unfold smaller
    rw [List.filter_eq_nil_iff]
    constructor
    · intro h k hk e
      have := h k hk
      simpa [e] using this
    · intro h k hk
      simp only [Bool.and_eq_true, decide_eq_true_eq, Bool.not_eq_true', decide_eq_false_iff_not, not_and, Classical.not_not]
      exact h k hk
  rw [this]
  simp
theorem pl_law_least (M : List Nat) (hM : M.length ≤ 1000) : ∀ (r K : List Nat) (a b : Sl), K.length + r.length ≤ 1000 → ∃ a' b', pLoop t_law_least_L0 g_law_least_L0 (r.map natD) [.sh (.list (M.map natD)), .ow (K.map natD), a, b] = some ([.sh (.list (M.map natD)), .ow ((leD M K r).map natD), a', b'], .nx)
  | [], K, a, b, _ => ⟨a, b, rfl⟩
  | m :: r, K, a, b, hl => by
    have tg : t_law_least_L0 (natD m) [.sh (.list (M.map natD)), .ow (K.map natD), a, b] = some [.sh (.list (M.map natD)), .ow (K.map natD), .sh (.int m), b] := rfl
    have sl : (smaller M m).length ≤ 1000000 := Nat.le_trans (List.length_filter_le _ _) (by omega)
    have p1 : pComp [none, some 2] (iAny (pVar 0)) t_law_least_C1 c_law_least_C1 e_law_least_C1 [.sh (.list (M.map natD)), .ow (K.map natD), .sh (.int m), b] = some (.ow ((smaller M m).map natD), [.sh (.list (M.map natD)), .ow (K.map natD), .sh (.int m), b]) := comp_at rfl (pc_least_c m M _) (flat_nat _) (by rw [List.length_map]; exact sl)
    have s1 : pSet 3 (pComp [none, some 2] (iAny (pVar 0)) t_law_least_C1 c_law_least_C1 e_law_least_C1) [.sh (.list (M.map natD)), .ow (K.map natD), .sh (.int m), b] = some ([.sh (.list (M.map natD)), .ow (K.map natD), .sh (.int m), .ow ((smaller M m).map natD)], .nx) := set_ow p1 (show 3 < 4 by decide)
    have dn := dEq_nat_nil (smaller M m)
    have e1 : isB (pBin pEq false (pVar 3) (pLst dNil)) [.sh (.list (M.map natD)), .ow (K.map natD), .sh (.int m), .ow ((smaller M m).map natD)] = some (decide (smaller M m = []), [.sh (.list (M.map natD)), .ow (K.map natD), .sh (.int m), .ow ((smaller M m).map natD)]) := by
      simp only [isB, pBin, pVar, List.getElem?_cons_succ, List.getElem?_cons_zero, Sl.isBr, Bool.false_and, Bool.false_eq_true, pLst, dNil, Option.bind_some, List.length_nil, Nat.reduceLeDiff, if_true, pEq, sc2, look, Sl.val, if_false, dn, Option.map_some]
    have e2 := nin_at (E := [.sh (.list (M.map natD)), .ow (K.map natD), .sh (.int m), .ow ((smaller M m).map natD)]) (m := m) (K := K) (i := 1) (pVar 2) rfl rfl
    have lb : K.length < 1000000 := by simp at hl; omega
    have cond : tAndP (isB (pBin pEq false (pVar 3) (pLst dNil))) (isB (pBin (pIn true) false (pVar 2) (pVar 1))) [.sh (.list (M.map natD)), .ow (K.map natD), .sh (.int m), .ow ((smaller M m).map natD)] = some (decide (smaller M m = [] ∧ m ∉ K), [.sh (.list (M.map natD)), .ow (K.map natD), .sh (.int m), .ow ((smaller M m).map natD)]) := by
      by_cases h : smaller M m = []
      · rw [decide_eq_true h] at e1
        simp only [tAndP, e1, Option.bind_some, if_true, e2]
        congr 2
        rw [← decide_not]
        exact decide_eq_decide.mpr (by simp [h])
      · rw [decide_eq_false h] at e1
        simp only [tAndP, e1, Option.bind_some, Bool.false_eq_true, if_false]
        congr 2
        exact (decide_eq_false (fun z => h z.1)).symm
    by_cases h : smaller M m = [] ∧ m ∉ K
    · rw [decide_eq_true h] at cond
      have st : (t_law_least_L0 (natD m) [.sh (.list (M.map natD)), .ow (K.map natD), a, b]).bind g_law_least_L0 = some ([.sh (.list (M.map natD)), .ow ((K ++ [m]).map natD), .sh (.int m), .ow ((smaller M m).map natD)], .nx) := by
        rw [tg, Option.bind_some, g_law_least_L0, seq_nx s1]
        refine if_yes cond ?_
        simp only [pExpr, pAppend, List.getElem?_cons_succ, List.getElem?_cons_zero, pVar, frz, Option.bind_some, List.length_map, lb, List.set_cons_succ, List.set_cons_zero, if_true, Option.map_some, List.map_append, List.map_cons, List.map_nil]
        rfl
      obtain ⟨a', b', e⟩ := pl_law_least M hM r (K ++ [m]) (.sh (.int m)) (.ow ((smaller M m).map natD)) (by simp at hl ⊢; omega)
      refine ⟨a', b', ?_⟩
      rw [List.map_cons, pLoop, st, leD, if_pos h]
      exact e
    · rw [decide_eq_false h] at cond
      have st : (t_law_least_L0 (natD m) [.sh (.list (M.map natD)), .ow (K.map natD), a, b]).bind g_law_least_L0 = some ([.sh (.list (M.map natD)), .ow (K.map natD), .sh (.int m), .ow ((smaller M m).map natD)], .nx) := by
        rw [tg, Option.bind_some, g_law_least_L0, seq_nx s1]
        exact if_no cond rfl
      obtain ⟨a', b', e⟩ := pl_law_least M hM r K (.sh (.int m)) (.ow ((smaller M m).map natD)) (by simp at hl ⊢; omega)
      refine ⟨a', b', ?_⟩
      rw [List.map_cons, pLoop, st, leD, if_neg h]
      exact e
theorem pv_law_least (M : List Nat) (hM : M.length ≤ 1000) : fn_law_least [.list (M.map natD)] = some (.ow ((leD M [] M).map natD)) := by
  obtain ⟨a, b, e⟩ := pl_law_least M hM M [] .no .no (by simpa using hM)
  have s1 : pSet 1 (pLst dNil) [.sh (.list (M.map natD)), .no, .no, .no] = some ([.sh (.list (M.map natD)), .ow [], .no, .no], .nx) := by simp only [pSet, pLst, dNil, Option.bind_some, List.length_nil, Nat.reduceLeDiff, if_true, PL.settle, frz, frzAll, List.length_cons, Nat.zero_add, Nat.reduceAdd, Nat.reduceLT, List.set_cons_succ, List.set_cons_zero]
  have fo : pFor (iAny (pVar 0)) t_law_least_L0 g_law_least_L0 [.sh (.list (M.map natD)), .ow [], .no, .no] = some ([.sh (.list (M.map natD)), .ow ((leD M [] M).map natD), a, b], .nx) := by
    unfold pFor
    exact e
  have g : fn_law_least [.list (M.map natD)] = (g_law_least [.sh (.list (M.map natD)), .no, .no, .no]).bind fun a => match a.2 with | .rt r => outS r | .nx => some (.sh .none) | _ => none := rfl
  have fl := flat_nat (leD M [] M)
  rw [g, g_law_least, seq_nx s1, seq_nx fo]
  simp only [pRet, pVar, List.getElem?_cons_succ, List.getElem?_cons_zero, Option.bind_some, List.set_cons_succ, List.set_cons_zero, Option.map_some, outS, Clean, fl, if_true]
theorem pl_told (x0 x1 : Sl) : ∀ (L : List (List Nat)) (a b : Sl), ∃ a' b', pLoop t_law_told_L0 g_law_told_L0 (zipD (L.map txD) (L.map txD)) [x0, x1, a, b] = some ([x0, x1, a', b'], .nx)
  | [], a, b => ⟨a, b, rfl⟩
  | w :: L, a, b => by
    have tg : t_law_told_L0 (.tuple [txD w, txD w]) [x0, x1, a, b] = some [x0, x1, .sh (txD w), .sh (txD w)] := rfl
    have c : tOrP (tNotP (pTru (pUn (dIsi .str) (pVar 2)))) (isB (pBin pNe false (pVar 2) (pVar 3))) [x0, x1, .sh (txD w), .sh (txD w)] = some (false, [x0, x1, .sh (txD w), .sh (txD w)]) := by
      simp only [tOrP, tNotP, pTru, pUn, pVar, txD, List.getElem?_cons_succ, List.getElem?_cons_zero, look, Sl.val, dIsi, Ty.is, tyD, Option.map_some, Option.bind_some, dTru, Bool.not_true, isB, pBin, Sl.isBr, Bool.false_and, Bool.false_eq_true, pNe, sc2, if_false, dEq_str, decide_true]
    have st : (t_law_told_L0 (.tuple [txD w, txD w]) [x0, x1, a, b]).bind g_law_told_L0 = some ([x0, x1, .sh (txD w), .sh (txD w)], .nx) := by
      rw [tg, Option.bind_some, g_law_told_L0]
      exact if_no c rfl
    obtain ⟨a', b', e⟩ := pl_told x0 x1 L (.sh (txD w)) (.sh (txD w))
    refine ⟨a', b', ?_⟩
    rw [List.map_cons, zipD, pLoop, st]
    exact e
theorem pv_law_told (L : List (List Nat)) (hl : L.length ≤ 1000) : fn_law_told [.list (L.map txD), .list (L.map txD)] = some (.sh (.bool true)) := by
  obtain ⟨a, b, e⟩ := pl_told (.sh (.list (L.map txD))) (.sh (.list (L.map txD))) L .no .no
  have lb : L.length ≤ 1000000 := by omega
  have c : tOrP (tNotP (pTru (pUn (dIsi .list) (pVar 0)))) (isB (pBin pNe false (pCaS dLen (aCons false (pVar 0) aNil)) (pCaS dLen (aCons false (pVar 1) aNil)))) [.sh (.list (L.map txD)), .sh (.list (L.map txD)), .no, .no] = some (false, [.sh (.list (L.map txD)), .sh (.list (L.map txD)), .no, .no]) := by
    simp only [tOrP, tNotP, pTru, pUn, pVar, List.getElem?_cons_zero, look, Sl.val, dIsi, Ty.is, tyD, Option.map_some, Option.bind_some, dTru, Bool.not_true, isB, pBin, pCaS, aCons, Sl.isBr, Bool.false_and, Bool.false_eq_true, aNil, if_false, dLen, pNe, sc2, lookA, List.length_map, List.getElem?_cons_succ, dEq_int, decide_true]
  have it : iZipP (pVar 0) (pVar 1) [.sh (.list (L.map txD)), .sh (.list (L.map txD)), .no, .no] = some (zipD (L.map txD) (L.map txD), [.sh (.list (L.map txD)), .sh (.list (L.map txD)), .no, .no]) := by
    simp only [iZipP, pVar, List.getElem?_cons_zero, frz, Option.bind_some, List.getElem?_cons_succ]
  have fo : pFor (iZipP (pVar 0) (pVar 1)) t_law_told_L0 g_law_told_L0 [.sh (.list (L.map txD)), .sh (.list (L.map txD)), .no, .no] = some ([.sh (.list (L.map txD)), .sh (.list (L.map txD)), a, b], .nx) := by
    unfold pFor
    rw [it, Option.bind_some]
    exact e
  have g : fn_law_told [.list (L.map txD), .list (L.map txD)] = (g_law_told [.sh (.list (L.map txD)), .sh (.list (L.map txD)), .no, .no]).bind fun a => match a.2 with | .rt r => outS r | .nx => some (.sh .none) | _ => none := rfl
  rw [g, g_law_told, seq_nx (if_no (b := pNext) c rfl), seq_nx fo]
  rfl
theorem ar2 {f g : PEv} {E : List Sl} {s1 s2 : Sl} (hf : f E = some (s1, E)) (hg : g E = some (s2, E)) : aCons false f (aCons false g aNil) E = some ([s1, s2], E) := by
  simp only [aCons, aNil, hf, hg, Option.bind_some, Option.map_some, Bool.false_and, Bool.false_eq_true, if_false]
theorem mod_at {E : List Sl} {f g : PEv} {x y : Int} (hf : f E = some (.sh (.int x), E)) (hg : g E = some (.sh (.int y), E)) (h : 0 < y) : pBin pMod false f g E = some (.sh (.int (x % y)), E) := by
  simp only [pBin, hf, hg, Option.bind_some, Bool.false_and, Bool.false_eq_true, if_false, pMod, sc2, iOp, look, Sl.val, h, decide_true, if_true, Option.map_some]
theorem fdiv_at {E : List Sl} {f g : PEv} {x y : Int} (hf : f E = some (.sh (.int x), E)) (hg : g E = some (.sh (.int y), E)) (h : okDiv y = true) : pBin pFdiv false f g E = some (.sh (.int (x / y)), E) := by
  simp only [pBin, hf, hg, Option.bind_some, Bool.false_and, Bool.false_eq_true, if_false, pFdiv, sc2, iOp, look, Sl.val, h, if_true, Option.map_some]
theorem sub_at {E : List Sl} {f g : PEv} {x y : Int} (hf : f E = some (.sh (.int x), E)) (hg : g E = some (.sh (.int y), E)) : pBin pSub false f g E = some (.sh (.int (x - y)), E) := by
  simp only [pBin, hf, hg, Option.bind_some, Bool.false_and, Bool.false_eq_true, if_false, pSub, sc2, iOp, look, Sl.val, if_true, Option.map_some]
theorem shl_at {E : List Sl} {f g : PEv} {y : Nat} (hf : f E = some (.sh (.int 1), E)) (hg : g E = some (.sh (.int y), E)) (h : y ≤ 1000) : pBin pShl false f g E = some (.sh (.int ((2 ^ y : Nat) : Int)), E) := by
  have c : (0 : Int) ≤ (y : Int) ∧ (y : Int) ≤ 1000000 ∧ -(2 ^ 64) < (1 : Int) ∧ (1 : Int) < 2 ^ 64 := ⟨by omega, by omega, by decide, by decide⟩
  have e : (1 : Int) * 2 ^ y = ((2 ^ y : Nat) : Int) := by push_cast; omega
  simp only [pBin, hf, hg, Option.bind_some, Bool.false_and, Bool.false_eq_true, if_false, pShl, sc2, iOp, look, Sl.val, c, and_self, decide_true, if_true, Option.map_some, Int.toNat_natCast, e]
theorem big_chain {E : List Sl} {c : Int} {i : Nat} (h : E[i]? = some (.sh (.int c))) : ∃ b, tNotP (isB (pChain (dCmp .lt) (dCmp .lt) false false (pUn dNeg (pBin pPow false (pC (.int 10)) (pC (.int 18)))) (pVar i) (pBin pPow false (pC (.int 10)) (pC (.int 18))))) E = some (b, E) := by
  have v : pVar i E = some (.sh (.int c), E) := by simp only [pVar, h]
  have p : pBin pPow false (pC (.int 10)) (pC (.int 18)) E = some (.sh (.int 1000000000000000000), E) := by
    simp only [pBin, pC, Option.bind_some, Bool.false_and, Bool.false_eq_true, if_false, pPow, sc2, iOp, look, Sl.val, Option.map_some]
    rfl
  have n : pUn dNeg (pBin pPow false (pC (.int 10)) (pC (.int 18))) E = some (.sh (.int (-1000000000000000000)), E) := by
    simp only [pUn, p, Option.bind_some, look, Sl.val, dNeg, Option.map_some]
  by_cases h1 : (-1000000000000000000 : Int) < c
  · by_cases h2 : c < 1000000000000000000
    · exact ⟨false, by simp only [tNotP, isB, pChain, n, v, p, Option.bind_some, look, Sl.val, dCmp, Cm.i, h1, h2, decide_true, if_true, Option.map_some, Bool.not_true, Bool.or_self, Sl.isBr, Bool.false_and, Bool.false_eq_true, if_false]⟩
    · exact ⟨true, by simp only [tNotP, isB, pChain, n, v, p, Option.bind_some, look, Sl.val, dCmp, Cm.i, h1, h2, decide_true, decide_false, if_true, Option.map_some, Bool.not_false, Bool.or_self, Sl.isBr, Bool.false_and, Bool.false_eq_true, if_false]⟩
  · exact ⟨true, by simp only [tNotP, isB, pChain, n, v, p, Option.bind_some, look, Sl.val, dCmp, Cm.i, h1, decide_false, if_true, Option.map_some, Bool.not_false, Bool.or_self, Sl.isBr, Bool.false_and, Bool.false_eq_true, if_false]⟩
theorem w1_at {E : List Sl} {n : Nat} {i : Nat} (h : E[i]? = some (.sh (.int n))) (hn : 1 ≤ n) (hn2 : n ≤ 100) : pBin pSub false (pBin pShl false (pC (.int 1)) (pVar i)) (pC (.int 1)) E = some (.sh (.int ((2 ^ n - 1 : Nat) : Int)), E) := by
  have v : pVar i E = some (.sh (.int n), E) := by simp only [pVar, h]
  have a := sub_at (shl_at (E := E) (f := pC (.int 1)) (g := pVar i) (y := n) rfl v (by omega)) (show pC (.int 1) E = some (.sh (.int 1), E) from rfl)
  rw [a]
  have p : 1 ≤ 2 ^ n := Nat.one_le_two_pow
  congr 4
  omega
theorem mask_of {n : Nat} (hn : 1 ≤ n) (z : Int) : ∃ m : Nat, 1 + z % ((2 ^ n - 1 : Nat) : Int) = (m : Int) ∧ m < 2 ^ n := by
  have p : 2 ≤ 2 ^ n := by
    have : 2 ^ 1 ≤ 2 ^ n := Nat.pow_le_pow_right (by decide) hn
    simpa using this
  have h0 := Int.emod_nonneg z (show ((2 ^ n - 1 : Nat) : Int) ≠ 0 by omega)
  have h1 := Int.emod_lt_of_pos z (show (0 : Int) < ((2 ^ n - 1 : Nat) : Int) by omega)
  exact ⟨(1 + z % ((2 ^ n - 1 : Nat) : Int)).toNat, by omega, by omega⟩
theorem w_pos {n : Nat} (hn : 1 ≤ n) : (0 : Int) < ((2 ^ n - 1 : Nat) : Int) := by
  have p : 2 ≤ 2 ^ n := by
    have : 2 ^ 1 ≤ 2 ^ n := Nat.pow_le_pow_right (by decide) hn
    simpa using this
  omega
theorem w_ok {n : Nat} (hn : 1 ≤ n) (hn2 : n ≤ 100) : okDiv ((2 ^ n - 1 : Nat) : Int) = true := by
  refine okDiv_of (w_pos hn) ?_
  have p : 2 ^ n ≤ 2 ^ 100 := Nat.pow_le_pow_right (by decide) hn2
  have q : (2 ^ 100 : Nat) < 2 ^ 200 := by decide
  have r : ((2 ^ 200 : Nat) : Int) = 2 ^ 200 := Int.natCast_pow 2 200
  rw [← r]
  omega
theorem app_nat {E : List Sl} {K : List Nat} {m : Nat} {i j : Nat} (hi : E[i]? = some (.ow (K.map natD))) (hj : E[j]? = some (.sh (.int m))) (hl : K.length < 1000000) : pExpr (pAppend i (pVar j)) E = some (E.set i (.ow ((K ++ [m]).map natD)), .nx) := by
  have e : (K ++ [m]).map natD = K.map natD ++ [PyData.int m] := by rw [List.map_append]; rfl
  have f : flat (PyData.int (m : Int)) = true := rfl
  rw [e]
  simp only [pExpr, pAppend, pVar, hj, Option.bind_some, hi, frz, look, Sl.val, List.length_map, hl, if_true, Option.map_some, f, and_self, decide_true, Bool.and_self, Bool.true_and]
theorem st_masks (ns : List Int) (first n : Nat) (hf : first ≤ 100) (hn : 1 ≤ n) (hn2 : n ≤ 100) (cell rest : Int) (x3 a b : Sl) (K : List Nat) (k : Nat) (hk : k ≤ 1000) (hK : K.length ≤ 1000) :
    ∃ (m : Nat) (r : Int), m < 2 ^ n ∧ (t_law_masks_L0 (.int k) [.sh (.list (ns.map .int)), .sh (.int first), .sh (.int n), x3, .ow (K.map natD), .sh (.int cell), .sh (.int rest), a, b]).bind g_law_masks_L0 =
      some ([.sh (.list (ns.map .int)), .sh (.int first), .sh (.int n), x3, .ow ((K ++ [m]).map natD), .sh (.int cell), .sh (.int r), .sh (.int k), .sh (.int m)], .nx) := by
  have tg : t_law_masks_L0 (.int k) [.sh (.list (ns.map .int)), .sh (.int first), .sh (.int n), x3, .ow (K.map natD), .sh (.int cell), .sh (.int rest), a, b] = some [.sh (.list (ns.map .int)), .sh (.int first), .sh (.int n), x3, .ow (K.map natD), .sh (.int cell), .sh (.int rest), .sh (.int k), b] := rfl
  obtain ⟨bb, cond⟩ := big_chain (E := [.sh (.list (ns.map .int)), .sh (.int first), .sh (.int n), x3, .ow (K.map natD), .sh (.int cell), .sh (.int rest), .sh (.int k), b]) (i := 5) (c := cell) rfl
  cases bb with
  | true =>
    obtain ⟨m, em, lm⟩ := mask_of hn rest
    refine ⟨m, rest / ((2 ^ n - 1 : Nat) : Int), lm, ?_⟩
    have w1 := w1_at (E := [.sh (.list (ns.map .int)), .sh (.int first), .sh (.int n), x3, .ow (K.map natD), .sh (.int cell), .sh (.int rest), .sh (.int k), b]) (i := 2) rfl hn hn2
    have v1 := call_add (E := [.sh (.list (ns.map .int)), .sh (.int first), .sh (.int n), x3, .ow (K.map natD), .sh (.int cell), .sh (.int rest), .sh (.int k), b]) (g := pC (.int 1)) (x := 1) rfl (mod_at (f := pVar 6) (x := rest) rfl w1 (w_pos hn))
    rw [em] at v1
    have s1 := set_sh (i := 8) v1 (show 8 < 9 by decide)
    have w2 := w1_at (E := [.sh (.list (ns.map .int)), .sh (.int first), .sh (.int n), x3, .ow (K.map natD), .sh (.int cell), .sh (.int rest), .sh (.int k), .sh (.int m)]) (i := 2) rfl hn hn2
    have v2 := fdiv_at (E := [.sh (.list (ns.map .int)), .sh (.int first), .sh (.int n), x3, .ow (K.map natD), .sh (.int cell), .sh (.int rest), .sh (.int k), .sh (.int m)]) (f := pVar 6) (x := rest) rfl w2 (w_ok hn hn2)
    have s2 := set_sh (i := 6) v2 (show 6 < 9 by decide)
    have ap := app_nat (E := [.sh (.list (ns.map .int)), .sh (.int first), .sh (.int n), x3, .ow (K.map natD), .sh (.int cell), .sh (.int (rest / ((2 ^ n - 1 : Nat) : Int))), .sh (.int k), .sh (.int m)]) (K := K) (m := m) (i := 4) (j := 8) rfl rfl (by omega)
    rw [tg, Option.bind_some, g_law_masks_L0, seq_nx (if_yes cond ((seq_nx s1).trans s2))]
    exact ap
  | false =>
    have md := mod_at (E := [.sh (.list (ns.map .int)), .sh (.int first), .sh (.int n), x3, .ow (K.map natD), .sh (.int cell), .sh (.int rest), .sh (.int k), b]) (f := pVar 7) (g := pC (.int 4)) (x := k) (y := 4) rfl rfl (by decide)
    have a1 := call_add (E := [.sh (.list (ns.map .int)), .sh (.int first), .sh (.int n), x3, .ow (K.map natD), .sh (.int cell), .sh (.int rest), .sh (.int k), b]) (g := pVar 1) (f := pC (.int 1)) (x := first) (y := 1) rfl rfl
    have a2 := call_add a1 md
    have ei : (first : Int) + 1 + (k : Int) % 4 = ((first + 1 + k % 4 : Nat) : Int) := by omega
    rw [ei] at a2
    have lat := pv_law_at ns (first + 1 + k % 4)
    have c1 := call_at (c := fn_law_at) (g := aCons false (pVar 0) (aCons false (pBin pAdd false (pBin pAdd false (pVar 1) (pC (.int 1))) (pBin pMod false (pVar 7) (pC (.int 4)))) aNil)) (E := [.sh (.list (ns.map .int)), .sh (.int first), .sh (.int n), x3, .ow (K.map natD), .sh (.int cell), .sh (.int rest), .sh (.int k), b]) (ss := [.sh (.list (ns.map .int)), .sh (.int ((first + 1 + k % 4 : Nat) : Int))]) (ar2 rfl a2) rfl lat
    have a3 := call_add c1 (show pVar 7 [.sh (.list (ns.map .int)), .sh (.int first), .sh (.int n), x3, .ow (K.map natD), .sh (.int cell), .sh (.int rest), .sh (.int k), b] = some (.sh (.int k), [.sh (.list (ns.map .int)), .sh (.int first), .sh (.int n), x3, .ow (K.map natD), .sh (.int cell), .sh (.int rest), .sh (.int k), b]) from rfl)
    obtain ⟨z, ez⟩ := pv_law_stir (ns.getD (first + 1 + k % 4) 0 + (k : Int)) (k : Int) (by omega) (by omega)
    have c2 := call_at (c := fn_law_stir) (g := aCons false (pBin pAdd false (pCall fn_law_at (aCons false (pVar 0) (aCons false (pBin pAdd false (pBin pAdd false (pVar 1) (pC (.int 1))) (pBin pMod false (pVar 7) (pC (.int 4)))) aNil))) (pVar 7)) (aCons false (pVar 7) aNil)) (E := [.sh (.list (ns.map .int)), .sh (.int first), .sh (.int n), x3, .ow (K.map natD), .sh (.int cell), .sh (.int rest), .sh (.int k), b]) (ss := [.sh (.int (ns.getD (first + 1 + k % 4) 0 + (k : Int))), .sh (.int k)]) (ar2 a3 rfl) rfl ez
    obtain ⟨m, em, lm⟩ := mask_of hn z
    refine ⟨m, rest, lm, ?_⟩
    have w1 := w1_at (E := [.sh (.list (ns.map .int)), .sh (.int first), .sh (.int n), x3, .ow (K.map natD), .sh (.int cell), .sh (.int rest), .sh (.int k), b]) (i := 2) rfl hn hn2
    have v1 := call_add (E := [.sh (.list (ns.map .int)), .sh (.int first), .sh (.int n), x3, .ow (K.map natD), .sh (.int cell), .sh (.int rest), .sh (.int k), b]) (g := pC (.int 1)) (x := 1) rfl (mod_at c2 w1 (w_pos hn))
    rw [em] at v1
    have s1 := set_sh (i := 8) v1 (show 8 < 9 by decide)
    have ap := app_nat (E := [.sh (.list (ns.map .int)), .sh (.int first), .sh (.int n), x3, .ow (K.map natD), .sh (.int cell), .sh (.int rest), .sh (.int k), .sh (.int m)]) (K := K) (m := m) (i := 4) (j := 8) rfl rfl (by omega)
    rw [tg, Option.bind_some, g_law_masks_L0, seq_nx (if_no cond s1)]
    exact ap
theorem pl_masks (ns : List Int) (first n : Nat) (hf : first ≤ 100) (hn : 1 ≤ n) (hn2 : n ≤ 100) (cell : Int) (x3 : Sl) : ∀ (c lo : Nat) (rest : Int) (a b : Sl) (K : List Nat), lo + c ≤ 1000 → K.length + c ≤ 1000 → (∀ m ∈ K, m < 2 ^ n) →
    ∃ (M : List Nat) (r : Int) (a' b' : Sl), M.length = K.length + c ∧ (∀ m ∈ M, m < 2 ^ n) ∧ pLoop t_law_masks_L0 g_law_masks_L0 (rngD lo c) [.sh (.list (ns.map .int)), .sh (.int first), .sh (.int n), x3, .ow (K.map natD), .sh (.int cell), .sh (.int rest), a, b] =
      some ([.sh (.list (ns.map .int)), .sh (.int first), .sh (.int n), x3, .ow (M.map natD), .sh (.int cell), .sh (.int r), a', b'], .nx)
  | 0, lo, rest, a, b, K, _, _, hK => ⟨K, rest, a, b, by simp, hK, rfl⟩
  | c + 1, lo, rest, a, b, K, h1, h2, hK => by
    obtain ⟨m, r, lm, st⟩ := st_masks ns first n hf hn hn2 cell rest x3 a b K lo (by omega) (by omega)
    obtain ⟨M, r', a', b', l, hM, e⟩ := pl_masks ns first n hf hn hn2 cell x3 c (lo + 1) r (.sh (.int lo)) (.sh (.int m)) (K ++ [m]) (by omega) (by simp; omega) (fun q hq => by
      rcases List.mem_append.mp hq with z | z
      · exact hK q z
      · rw [List.mem_singleton.mp z]; exact lm)
    refine ⟨M, r', a', b', by rw [l]; simp; omega, hM, ?_⟩
    rw [show ((lo + 1 : Nat) : Int) = (lo : Int) + 1 by omega] at e
    rw [rngD_succ, pLoop, st]
    exact e
theorem rng_at {E : List Sl} {f : PEv} {z : Int} {c : Nat} (hf : f E = some (.sh (.int z), E)) (h1 : z = (c : Int)) (h2 : c ≤ 1000) : iRng1P (aCons false f aNil) E = some (rngD 0 c, E) := by
  have o1 : (-1000000 : Int) ≤ z := by omega
  have o2 : z ≤ 1000000 := by omega
  have t : z.toNat = c := by omega
  simp only [iRng1P, aCons, aNil, hf, Option.bind_some, Option.map_some, Bool.false_and, Bool.false_eq_true, if_false, lookA, look, Sl.val, o1, o2, and_self, if_true, decide_true, t]
theorem pv_law_masks (ns : List Int) (first n : Nat) (hf : first ≤ 100) (hn : 1 ≤ n) (hn2 : n ≤ 100) : ∃ M : List Nat, M.length ≤ 8 ∧ (∀ m ∈ M, m < 2 ^ n) ∧ fn_law_masks [.list (ns.map .int), .int first, .int n, .int 8] = some (.ow (M.map natD)) := by
  have h0 := Int.emod_nonneg (ns.getD first 0 / 2) (show (8 : Int) ≠ 0 by decide)
  have h1 := Int.emod_lt_of_pos (ns.getD first 0 / 2) (show (0 : Int) < 8 by decide)
  generalize ec : ns.getD first 0 = cell at h0 h1
  obtain ⟨c, hc⟩ : ∃ c : Nat, 1 + cell / 2 % 8 = (c : Int) := ⟨(1 + cell / 2 % 8).toNat, by omega⟩
  obtain ⟨M, r, a, b, l, hM, e⟩ := pl_masks ns first n hf hn hn2 cell (.sh (.int 8)) c 0 (cell / 16) .no .no [] (by omega) (by simp; omega) (fun m hm => by cases hm)
  refine ⟨M, by rw [l]; simp; omega, hM, ?_⟩
  have lat := pv_law_at ns first
  rw [ec] at lat
  have s1 : pSet 4 (pLst dNil) [.sh (.list (ns.map .int)), .sh (.int first), .sh (.int n), .sh (.int 8), .no, .no, .no, .no, .no] = some ([.sh (.list (ns.map .int)), .sh (.int first), .sh (.int n), .sh (.int 8), .ow [], .no, .no, .no, .no], .nx) := by simp only [pSet, pLst, dNil, Option.bind_some, List.length_nil, Nat.reduceLeDiff, if_true, PL.settle, frz, frzAll, List.length_cons, Nat.zero_add, Nat.reduceAdd, Nat.reduceLT, List.set_cons_succ, List.set_cons_zero]
  have c2 := call_at (c := fn_law_at) (g := aCons false (pVar 0) (aCons false (pVar 1) aNil)) (E := [.sh (.list (ns.map .int)), .sh (.int first), .sh (.int n), .sh (.int 8), .ow [], .no, .no, .no, .no]) (ss := [.sh (.list (ns.map .int)), .sh (.int first)]) rfl rfl lat
  have s2 := set_sh (i := 5) c2 (show 5 < 9 by decide)
  have mu := call_mul (E := [.sh (.list (ns.map .int)), .sh (.int first), .sh (.int n), .sh (.int 8), .ow [], .sh (.int cell), .no, .no, .no]) (g := pC (.int 2)) (f := pVar 3) (x := 2) (y := 8) rfl rfl (okMul_l (by decide) (by decide))
  have d3 := fdiv_at (E := [.sh (.list (ns.map .int)), .sh (.int first), .sh (.int n), .sh (.int 8), .ow [], .sh (.int cell), .no, .no, .no]) (f := pVar 5) (x := cell) rfl mu (by decide)
  have s3 := set_sh (i := 6) d3 (show 6 < 9 by decide)
  have e16 : (2 : Int) * 8 = 16 := rfl
  rw [e16] at s3
  have v1 := fdiv_at (E := [.sh (.list (ns.map .int)), .sh (.int first), .sh (.int n), .sh (.int 8), .ow [], .sh (.int cell), .sh (.int (cell / 16)), .no, .no]) (f := pVar 5) (g := pC (.int 2)) (x := cell) (y := 2) rfl rfl (by decide)
  have v2 := mod_at v1 (show pVar 3 [.sh (.list (ns.map .int)), .sh (.int first), .sh (.int n), .sh (.int 8), .ow [], .sh (.int cell), .sh (.int (cell / 16)), .no, .no] = some (.sh (.int 8), [.sh (.list (ns.map .int)), .sh (.int first), .sh (.int n), .sh (.int 8), .ow [], .sh (.int cell), .sh (.int (cell / 16)), .no, .no]) from rfl) (by decide)
  have v3 := call_add (g := pC (.int 1)) (x := 1) (E := [.sh (.list (ns.map .int)), .sh (.int first), .sh (.int n), .sh (.int 8), .ow [], .sh (.int cell), .sh (.int (cell / 16)), .no, .no]) rfl v2
  have it := rng_at (c := c) v3 hc (by omega)
  have fo : pFor (iRng1P (aCons false (pBin pAdd false (pC (.int 1)) (pBin pMod false (pBin pFdiv false (pVar 5) (pC (.int 2))) (pVar 3))) aNil)) t_law_masks_L0 g_law_masks_L0 [.sh (.list (ns.map .int)), .sh (.int first), .sh (.int n), .sh (.int 8), .ow [], .sh (.int cell), .sh (.int (cell / 16)), .no, .no] = some ([.sh (.list (ns.map .int)), .sh (.int first), .sh (.int n), .sh (.int 8), .ow (M.map natD), .sh (.int cell), .sh (.int r), a, b], .nx) := by
    unfold pFor
    rw [it, Option.bind_some]
    exact e
  have g : fn_law_masks [.list (ns.map .int), .int first, .int n, .int 8] = (g_law_masks [.sh (.list (ns.map .int)), .sh (.int first), .sh (.int n), .sh (.int 8), .no, .no, .no, .no, .no]).bind fun a => match a.2 with | .rt r => outS r | .nx => some (.sh .none) | _ => none := rfl
  have fl := flat_nat M
  rw [g, g_law_masks, seq_nx s1, seq_nx s2]
  have s3' : pSet 6 (pBin pFdiv false (pVar 5) (pBin pMul false (pC (.int 2)) (pVar 3))) ([.sh (.list (ns.map .int)), .sh (.int first), .sh (.int n), .sh (.int 8), .ow [], .no, .no, .no, .no].set 5 (.sh (.int cell))) = some ([.sh (.list (ns.map .int)), .sh (.int first), .sh (.int n), .sh (.int 8), .ow [], .sh (.int cell), .sh (.int (cell / 16)), .no, .no], .nx) := s3
  rw [seq_nx s3', seq_nx fo]
  simp only [pRet, pVar, List.getElem?_cons_succ, List.getElem?_cons_zero, Option.bind_some, List.set_cons_succ, List.set_cons_zero, Option.map_some, outS, Clean, fl, if_true]
theorem eqv_at {E : List Sl} {f g : PEv} {x y : Int} (hf : f E = some (.sh (.int x), E)) (hg : g E = some (.sh (.int y), E)) : pBin pEq false f g E = some (.sh (.bool (decide (x = y))), E) := by
  simp only [pBin, pEq, sc2, hf, hg, Option.bind_some, look, Sl.val, Option.map_some, Bool.false_and, Bool.false_eq_true, if_false, dEq_int]
theorem bools_of : ∀ (bs : List Bool), boolsOf (bs.map PyData.bool) = some bs
  | [] => rfl
  | b :: bs => by
    show (boolsOf (bs.map PyData.bool)).map (b :: ·) = _
    rw [bools_of bs]
    rfl
theorem flat_bools (bs : List Bool) : flatA (bs.map PyData.bool) = true := by
  induction bs with
  | nil => rfl
  | cons b bs ih => show (flat (PyData.bool b) && flatA (bs.map PyData.bool)) = true; rw [ih]; rfl
theorem told_len {U : List Nat} {L : List (List Nat)} {f : List Nat → Prop} (u : Uni U) (t : NhFam.Told U L f) : L.length ≤ 31 := by
  have nd := NhFam.srt_nodup t.srt
  have key : ∀ (L M : List (List Nat)), L.Nodup → (∀ w ∈ L, w ∈ M) → L.length ≤ M.length := fun L => by
    induction L with
    | nil => intro M _ _; simp
    | cons a L ih =>
      intro M hn hm
      have hn' := List.nodup_cons.mp hn
      have := ih (M.erase a) hn'.2 fun w hw => (List.mem_erase_of_ne (a := w) (b := a) (fun e => hn'.1 (by rw [← e]; exact hw))).mpr (hm w (List.mem_cons_of_mem _ hw))
      rw [List.length_erase_of_mem (hm a (List.mem_cons_self ..))] at this
      have pos : 0 < M.length := List.length_pos_of_mem (hm a (List.mem_cons_self ..))
      simp only [List.length_cons]
      omega
  by_cases h : ([] : List Nat) ∈ L
  · have e := (t.mem []).mp h
    have := key L [[]] nd fun w hw => by
      have q := ((t.mem w).mp hw).2.2 [] e.1 e.2.1 (fun x hx => by cases hx)
      rw [← q]
      simp
    simp at this
    omega
  · have m0 : ([] : List Nat) ∈ NhFam.allT U := (NhFam.allT_mem u.srt).mpr ⟨List.Pairwise.nil, fun x hx => by cases hx⟩
    have := key L ((NhFam.allT U).erase []) nd fun w hw => (List.mem_erase_of_ne (a := w) (b := []) (fun e => h (by rw [← e]; exact hw))).mpr ((NhFam.allT_mem u.srt).mpr (t.sub w hw))
    rw [List.length_erase_of_mem m0, NhFam.allT_len] at this
    have p : 2 ^ U.length ≤ 2 ^ 5 := Nat.pow_le_pow_right (by decide) u.len
    omega
theorem txd_ok {w : List Nat} (h : ∀ a ∈ w, az a) : (txD w).canLay0 = true := by
  have : ∀ a ∈ w, a < 1114112 := fun a ha => by have := h a ha; unfold az at this; omega
  simp only [txD, PyData.canLay0, PyData.strOk]
  simpa using this
theorem tx_lay : ∀ {L : List (List Nat)}, (∀ w ∈ L, ∀ a ∈ w, az a) → PyData.canLayAll0 (L.map txD) = true ∧ PyData.depthAll (L.map txD) = 0
  | [], _ => by simp [PyData.canLayAll0, PyData.depthAll]
  | w :: L, h => by
    obtain ⟨x, y⟩ := tx_lay (L := L) fun v hv => h v (List.mem_cons_of_mem _ hv)
    have h1 := txd_ok (h w (List.mem_cons_self ..))
    have h2 : (txD w).depth = 0 := by simp [txD, PyData.depth]
    simp only [List.map_cons, PyData.canLayAll0, PyData.depthAll, h1, h2, x, y, Bool.and_self, true_and]
    rfl
theorem tx_eqv : ∀ L : List (List Nat), PyData.eqvAll (L.map txD) (L.map txD) = true
  | [] => by simp [PyData.eqvAll]
  | w :: L => by
    simp only [List.map_cons, PyData.eqvAll, tx_eqv L, Bool.and_true]
    simp [txD, PyData.eqv]
theorem Fam.azs {U : List Nat} {L : List (List Nat)} (u : Uni U) (h : Fam U L) : ∀ w ∈ L, ∀ a ∈ w, az a := fun w hw => u.azw (h.sub w hw)
theorem masks_told {U M : List Nat} (u : Uni U) (hM : ∀ m ∈ M, m < 2 ^ U.length) : NhFam.Told U (NhFam.sortT ((leD M [] M).map (NhFam.setM U))) (NhFam.up (NhFam.sortT ((leD M [] M).map (NhFam.setM U)))) := by
  have t := NhFam.texts_told u.srt (leD_least M) hM
  exact t.congr fun w hw => (t.up_iff (NhFam.up_mono U _) hw).symm
theorem leD_lt {M : List Nat} {n : Nat} (hM : ∀ m ∈ M, m < n) : ∀ m ∈ leD M [] M, m < n := fun m hm => hM m (((leD_least M).mem m).mp hm).1
noncomputable def bothV (F G : List (List Nat)) : List (List Nat) := NhFam.bothT F G (inOrd (F ++ G).flatten)
theorem bothV_told {U : List Nat} {F G : List (List Nat)} (u : Uni U) (h : Fam U F) (k : Fam U G) : NhFam.Told U (bothV F G) (fun w => NhFam.up F w ∧ NhFam.up G w) := by
  have hs : ∀ v ∈ F ++ G, NhFam.Sub U v := fun v hv => (List.mem_append.mp hv).elim (h.sub v) (k.sub v)
  have s := nails_sub u hs
  have l := nails_has u hs
  exact NhFam.both_told u.srt s.1 s.2 (fun v hv => l v (by simp [hv])) (fun v hv => l v (by simp [hv]))
theorem both_mono (U : List Nat) (F G : List (List Nat)) : NhFam.Mono U (fun w => NhFam.up F w ∧ NhFam.up G w) := fun v w a b q h => ⟨NhFam.up_mono U F v w a b q h.1, NhFam.up_mono U G v w a b q h.2⟩
theorem or_mono (U : List Nat) (F G : List (List Nat)) : NhFam.Mono U (fun w => NhFam.up F w ∨ NhFam.up G w) := fun v w a b q h => h.elim (fun h => .inl (NhFam.up_mono U F v w a b q h)) (fun h => .inr (NhFam.up_mono U G v w a b q h))
theorem ar1 {f : PEv} {E : List Sl} {s1 : Sl} (hf : f E = some (s1, E)) : aCons false f aNil E = some ([s1], E) := by
  simp only [aCons, aNil, hf, Option.bind_some, Option.map_some, Bool.false_and, Bool.false_eq_true, if_false]
theorem len_at {E : List Sl} {i : Nat} {ds : List PyData} (h : E[i]? = some (.ow ds)) (hl : ds.length ≤ 1000000) : pCaS dLen (aCons false (pVar i) aNil) E = some (.sh (.int (ds.length : Int)), E) := by
  have v : pVar i E = some (.al i, E) := by simp only [pVar, h]
  have e : look E (.al i) = some (.list ds) := by simp only [look, h, Option.bind_some, Sl.val]
  simp only [pCaS, ar1 v, Option.bind_some, lookA, e, dLen, hl, if_true, Option.map_some]
theorem lstOf_at {E : List Sl} {i : Nat} {ds : List PyData} (h : E[i]? = some (.ow ds)) (hl : ds.length ≤ 1000000) : pLstOf (pVar i) E = some (.ow ds, E) := by
  have v : pVar i E = some (.al i, E) := by simp only [pVar, h]
  have e : look E (.al i) = some (.list ds) := by simp only [look, h, Option.bind_some, Sl.val]
  have ho : hot E (.al i) = false := by simp only [hot, h, Option.any_some, hot1]
  simp only [pLstOf, v, Option.bind_some, e, ho, hl, Bool.not_false, Bool.true_and, Bool.false_eq_true, if_false, if_true, Option.map_some, Bool.and_true, Bool.false_or, Bool.true_or]
theorem sorted_at {E : List Sl} {f : PEv} {w : List Nat} (hf : f E = some (.ow (w.map stD), E)) (hl : w.length < 64) (n : w.Nodup) (a : ∀ y ∈ w, az y) : pSorted f E = some (.ow ((inOrd w).map stD), E) := by
  have l : (w.map oneS).length < 64 := by rw [List.length_map]; exact hl
  have m : ((inOrd w).map oneS).map PyData.str = (inOrd w).map stD := by rw [List.map_map]; rfl
  simp only [pSorted, hf, Option.bind_some, look, Sl.val, strs_one, l, if_true, sortS_one n a, m]
theorem pc_bits_k : ∀ (F : List (List Nat)) (x : Sl), cLoop t_breaks_C0 tYesP e_breaks_C0 (F.map txD) [x] = some (F.map bitD)
  | [], x => rfl
  | v :: F, x => by
    have t : t_breaks_C0 (txD v) [x] = some [.sh (txD v)] := rfl
    have e : e_breaks_C0 [.sh (txD v)] = some (.sh (.int (NH.bitsW v)), [.sh (txD v)]) := call_at (ss := [.sh (txD v)]) rfl rfl (pv_bits_of v)
    exact cl_cons t e (pc_bits_k F _)
theorem pv_breaks {F : List (List Nat)} (hK : ∀ k ∈ F, NH.Ltrs k) (hl : F.length ≤ 1000) {t : List Nat} (ht : ∀ a ∈ t, az a) (htl : t.length ≤ 1000) : fn_breaks [.list (F.map txD), txD t] = some (.sh (.bool (NhFam.upB F (inOrd t)))) := by
  have c1 : pCall fn_set_of (aCons false (pVar 1) aNil) [.sh (.list (F.map txD)), .sh (txD t)] = some (.sh (txD (inOrd t)), [.sh (.list (F.map txD)), .sh (txD t)]) := call_at (ss := [.sh (txD t)]) rfl rfl (pv_set_of ht htl)
  have c2 := call_at (c := fn_bits_of) (ar1 c1) rfl (pv_bits_of (inOrd t))
  have p : pComp [none] (iAny (pVar 0)) t_breaks_C0 tYesP e_breaks_C0 [.sh (.list (F.map txD)), .sh (txD t)] = some (.ow (F.map bitD), [.sh (.list (F.map txD)), .sh (txD t)]) := comp_at rfl (pc_bits_k F _) (flat_bitD _) (by rw [List.length_map]; omega)
  have pm := pv_part (NH.bitsW (inOrd t)) (F.map NH.bitsW)
  rw [← bitD_map, any_part hK (inOrd t)] at pm
  have c3 := call_at (c := fn_has_part_among) (ar2 c2 p) rfl pm
  have g : fn_breaks [.list (F.map txD), txD t] = (g_breaks [.sh (.list (F.map txD)), .sh (txD t)]).bind fun a => match a.2 with | .rt r => outS r | .nx => some (.sh .none) | _ => none := rfl
  rw [g, g_breaks]
  simp only [pRet, c3, Option.map_some, Option.bind_some]
  rfl
theorem pc_lb (out : Nat) : ∀ (D : List Nat) (x : Sl), cLoop t_law_breaks_C0 tYesP e_law_breaks_C0 (D.map natD) [x, .sh (.int out)] = some (D.map fun one => .bool (decide (one &&& out = one)))
  | [], x => rfl
  | d :: D, x => by
    have t : t_law_breaks_C0 (natD d) [x, .sh (.int out)] = some [.sh (.int d), .sh (.int out)] := rfl
    have an := and_at (f := pVar 0) (g := pVar 1) (x := d) (y := out) (E := [.sh (.int d), .sh (.int out)]) rfl rfl
    have e : e_law_breaks_C0 [.sh (.int d), .sh (.int out)] = some (.sh (.bool (decide (d &&& out = d))), [.sh (.int d), .sh (.int out)]) := by
      have v : pVar 0 [.sh (.int d), .sh (.int out)] = some (.sh (.int d), [.sh (.int d), .sh (.int out)]) := rfl
      have q : decide (((d &&& out : Nat) : Int) = (d : Int)) = decide (d &&& out = d) := decide_eq_decide.mpr (by omega)
      have z := eqv_at an v
      rw [q] at z
      exact z
    exact cl_cons t e (pc_lb out D _)
theorem pv_law_breaks (D : List Nat) (hD : D.length ≤ 1000) (out : Nat) : fn_law_breaks [.list (D.map natD), .int out] = some (.sh (.bool (D.any fun one => decide (one &&& out = one)))) := by
  have e := pc_lb out D .no
  have em : (D.map fun one => PyData.bool (decide (one &&& out = one))) = (D.map fun one => decide (one &&& out = one)).map PyData.bool := by rw [List.map_map]; rfl
  rw [em] at e
  have p : pComp [none, some 1] (iAny (pVar 0)) t_law_breaks_C0 tYesP e_law_breaks_C0 [.sh (.list (D.map natD)), .sh (.int out)] = some (.ow ((D.map fun one => decide (one &&& out = one)).map PyData.bool), [.sh (.list (D.map natD)), .sh (.int out)]) := comp_at rfl e (flat_bools _) (by simp; omega)
  have bo := bools_of (D.map fun one => decide (one &&& out = one))
  have an : (D.map fun one => decide (one &&& out = one)).any id = D.any (fun one => decide (one &&& out = one)) := by rw [List.any_map]; rfl
  have ca : pCaS dAny (aCons false (pComp [none, some 1] (iAny (pVar 0)) t_law_breaks_C0 tYesP e_law_breaks_C0) aNil) [.sh (.list (D.map natD)), .sh (.int out)] = some (.sh (.bool (D.any (fun one => decide (one &&& out = one)))), [.sh (.list (D.map natD)), .sh (.int out)]) := by
    simp only [pCaS, ar1 p, Option.bind_some, lookA, look, Sl.val, dAny, bo, an, Option.map_some]
  have g : fn_law_breaks [.list (D.map natD), .int out] = (g_law_breaks [.sh (.list (D.map natD)), .sh (.int out)]).bind fun a => match a.2 with | .rt r => outS r | .nx => some (.sh .none) | _ => none := rfl
  rw [g, g_law_breaks]
  simp only [pRet, ca, Option.map_some, Option.bind_some]
  rfl
theorem nails2 (cell : Int) (many : Nat) (hm : many ≤ 5) : ∃ (w v : List Nat) (x : Nat), fn_law_nails [.int cell, .int many] = some (.ow (w.map stD)) ∧ w.length = many ∧ (∀ a ∈ w, az a) ∧ w.Nodup ∧ fn_law_nails [.int cell, .int 6] = some (.ow ((v ++ [x]).map stD)) ∧ az x ∧ x ∉ w := by
  have m0 := Int.emod_nonneg (cell / 26) (show (12 : Int) ≠ 0 by decide)
  have m1 := Int.emod_lt_of_pos (cell / 26) (show (0 : Int) < 12 by decide)
  obtain ⟨i, hi⟩ : ∃ i : Nat, cell / 26 % 12 = i := ⟨(cell / 26 % 12).toNat, by omega⟩
  obtain ⟨v, ev, v0, v1, v2⟩ := step_at' i (by omega)
  have e := pc_nails' cell v v0 v1 many 0 .no
  have e6 := pc_nails' cell v v0 v1 6 0 .no
  simp only [Int.natCast_zero] at e e6
  refine ⟨(List.range' 0 many).map (nailAt cell v), (List.range' 0 5).map (nailAt cell v), nailAt cell v 5, st_nails2 cell many v i many _ (by decide) hi (by rw [atI_nat', ev]) (by omega) (by omega) (by simp) e (flat_stD _) (by simp; omega), by simp, fun a ha => ?_, ?_, ?_, nailAt_az cell v 5, fun h => ?_⟩
  · obtain ⟨k, _, rfl⟩ := List.mem_map.mp ha
    exact nailAt_az cell v k
  · rw [List.Nodup, List.pairwise_map]
    refine List.Pairwise.imp_of_mem ?_ (List.pairwise_lt_range' (s := 0) (n := many))
    intro a b ha hb hab
    exact nailAt_inj v2 hab (by have := List.mem_range'_1.mp hb; omega)
  · have := st_nails2 cell 6 v i 6 _ (by decide) hi (by rw [atI_nat', ev]) (by omega) (by omega) (by simp) e6 (flat_stD _) (by simp)
    rw [this]
    rfl
  · obtain ⟨k, hk, ek⟩ := List.mem_map.mp h
    exact nailAt_inj v2 (by have := List.mem_range'_1.mp hk; omega) (by decide) ek
theorem br_same {U M : List Nat} (u : Uni U) (hM : ∀ m ∈ M, m < 2 ^ U.length) {out : Nat} (ho : out < 2 ^ U.length) {t : List Nat} (ht : ∀ a, a ∈ U → (a ∈ t ↔ a ∈ NhFam.setM U out)) :
    NhFam.upB (NhFam.sortT ((leD M [] M).map (NhFam.setM U))) (inOrd t) = (leD M [] M).any fun one => decide (one &&& out = one) := by
  have nd := NhFam.Srt.nodup u.srt
  rw [Bool.eq_iff_iff, NhFam.upB_iff, List.any_eq_true]
  constructor
  · rintro ⟨v, hv, l⟩
    obtain ⟨d, hd, rfl⟩ := List.mem_map.mp (NhFam.sortT_mem.mp hv)
    refine ⟨d, hd, decide_eq_true ((NhFam.setM_le nd (leD_lt hM d hd) ho).mp fun x hx => ?_)⟩
    exact (ht x ((NhFam.setM_sub U d).subset hx)).mp (inOrd_mem.mp (l x hx)).2
  · rintro ⟨d, hd, e⟩
    refine ⟨_, NhFam.sortT_mem.mpr (List.mem_map.mpr ⟨d, hd, rfl⟩), fun x hx => ?_⟩
    have xU := (NhFam.setM_sub U d).subset hx
    have := (NhFam.setM_le nd (leD_lt hM d hd) ho).mpr (of_decide_eq_true e) x hx
    exact inOrd_mem.mpr ⟨az_mem (u.lt x xU), (ht x xU).mpr this⟩
theorem due_of {U O : List Nat} (u : Uni U) {f : List Nat → Prop} (mo : NhFam.Mono U f) (hO : ∀ k, k ∈ O ↔ k < 2 ^ U.length ∧ f (NhFam.setM U k)) : NhFam.Told U (NhFam.sortT ((leD O [] O).map (NhFam.setM U))) f :=
  (NhFam.texts_told u.srt (leD_least O) fun m hm => ((hO m).mp hm).1).congr fun w hw => NhFam.up_all u.srt mo hO hw
theorem last_at (v : List Nat) (x : Nat) : atI ((v ++ [x]).map stD) (-1) = some (stD x) := by
  rw [List.map_append]
  exact atI_lst _ _
theorem mul_tx (x out : Nat) : Txt.mul (⟨#[x]⟩ : Str) ((out % 2 : Nat) : Int) = ⟨(if out % 2 = 1 then [x] else []).toArray⟩ := by
  have h : out % 2 = 0 ∨ out % 2 = 1 := by omega
  rcases h with h | h
  · rw [h]; rfl
  · rw [h]; rfl
noncomputable def txo (U : List Nat) (x out : Nat) : List Nat := NhFam.setM U out ++ (if out % 2 = 1 then [x] else [])
noncomputable def brk (D : List Nat) (out : Nat) : Bool := D.any fun one => decide (one &&& out = one)
structure Cx2 (U : List Nat) (x : Nat) (D1 D2 : List Nat) (L1 L2 : List (List Nat)) : Prop where
  u : Uni U
  ax : az x
  d1 : D1.length ≤ 8
  d2 : D2.length ≤ 8
  f1 : Fam U L1
  f2 : Fam U L2
  s1 : ∀ out, out < 2 ^ U.length → NhFam.upB L1 (inOrd (txo U x out)) = brk D1 out
  s2 : ∀ out, out < 2 ^ U.length → NhFam.upB L2 (inOrd (txo U x out)) = brk D2 out
noncomputable def hnd (L1 L2 : List (List Nat)) : List PyData := [.list (L1.map txD), .list (L2.map txD)]
theorem brk_call {D : List Nat} (hD : D.length ≤ 8) {E : List Sl} {i out : Nat} (hi : E[i]? = some (.sh (.list (D.map natD)))) (ho : E[10]? = some (.sh (.int out))) : pCall fn_law_breaks (aCons false (pVar i) (aCons false (pVar 10) aNil)) E = some (.sh (.bool (brk D out)), E) := by
  have v1 : pVar i E = some (.sh (.list (D.map natD)), E) := by simp only [pVar, hi]
  have v2 : pVar 10 E = some (.sh (.int out), E) := by simp only [pVar, ho]
  exact call_at (ar2 v1 v2) rfl (pv_law_breaks D (by omega) out)
theorem tru_of {f : PEv} {E : List Sl} {b : Bool} (h : f E = some (.sh (.bool b), E)) : pTru f E = some (b, E) := by
  simp only [pTru, h, Option.bind_some, look, Sl.val, dTru, Option.map_some]
theorem and_any {a b : PTv} {E : List Sl} {x y : Bool} (h : a E = some (x, E)) (k : b E = some (y, E)) : tAndP a b E = some (x && y, E) := by
  cases x <;> simp only [tAndP, h, k, Option.bind_some, if_true, Bool.false_eq_true, if_false, Bool.true_and, Bool.false_and]
theorem or_any {a b : PTv} {E : List Sl} {x y : Bool} (h : a E = some (x, E)) (k : b E = some (y, E)) : tOrP a b E = some (x || y, E) := by
  cases x <;> simp only [tOrP, h, k, Option.bind_some, if_true, Bool.false_eq_true, if_false, Bool.true_or, Bool.false_or]
theorem app_if {c : PTv} {E : List Sl} {K : List Nat} {m i : Nat} {b : Bool} (hc : c E = some (b, E)) (hi : E[i]? = some (.ow (K.map natD))) (hj : E[10]? = some (.sh (.int m))) (hl : K.length < 1000000) : pIfS c (pExpr (pAppend i (pVar 10))) pNext E = some (E.set i (.ow ((if b then K ++ [m] else K).map natD)), .nx) := by
  cases b with
  | true => exact if_yes hc (app_nat hi hj hl)
  | false =>
    have e : E.set i (.ow (K.map natD)) = E := List.ext_getElem? fun j => by
      by_cases h : i = j
      · subst h; rw [List.getElem?_set_self', hi]; rfl
      · rw [List.getElem?_set_ne h]
    simp only [Bool.false_eq_true, if_false]
    rw [e]
    exact if_no hc rfl
theorem st_L1 {U : List Nat} {x : Nat} {D1 D2 : List Nat} {L1 L2 : List (List Nat)} (c : Cx2 U x D1 D2 L1 L2) {D : List Nat} {L : List (List Nat)} (hD : D.length ≤ 8) (hL : Fam U L) {out : Nat} (hs : NhFam.upB L (inOrd (txo U x out)) = brk D out) (sc s1 s2 s3 s4 s5 s6 s7 s8 s9 r m f : Sl) :
    (t_law_L1 (.tuple [.list (L.map txD), .list (D.map natD)]) [sc, s1, s2, s3, s4, s5, s6, s7, s8, s9, .sh (.int out), .sh (txD (txo U x out)), r, m, f, .no]).bind g_law_L1 = some ([sc, s1, s2, s3, s4, s5, s6, s7, s8, s9, .sh (.int out), .sh (txD (txo U x out)), .sh (.list (L.map txD)), .sh (.list (D.map natD)), .sh (.bool (brk D out)), .no], .nx) := by
  have tg : t_law_L1 (.tuple [.list (L.map txD), .list (D.map natD)]) [sc, s1, s2, s3, s4, s5, s6, s7, s8, s9, .sh (.int out), .sh (txD (txo U x out)), r, m, f, .no] = some [sc, s1, s2, s3, s4, s5, s6, s7, s8, s9, .sh (.int out), .sh (txD (txo U x out)), .sh (.list (L.map txD)), .sh (.list (D.map natD)), f, .no] := rfl
  have lt : (txo U x out).length ≤ 1000 := by
    have := (NhFam.setM_sub U out).length_le
    have := c.u.len
    unfold txo
    split <;> simp <;> omega
  have at' : ∀ a ∈ txo U x out, az a := fun a ha => by
    unfold txo at ha
    rcases List.mem_append.mp ha with z | z
    · exact c.u.lt a ((NhFam.setM_sub U out).subset z)
    · split at z
      · rw [List.mem_singleton.mp z]; exact c.ax
      · cases z
  have br := pv_breaks (F := L) (fun k hk => c.u.ltrs (hL.sub k hk)) (by have := hL.len; omega) at' lt
  rw [hs] at br
  have c1 : pCall fn_breaks (aCons false (pVar 12) (aCons false (pVar 11) aNil)) [sc, s1, s2, s3, s4, s5, s6, s7, s8, s9, .sh (.int out), .sh (txD (txo U x out)), .sh (.list (L.map txD)), .sh (.list (D.map natD)), f, .no] = some (.sh (.bool (brk D out)), [sc, s1, s2, s3, s4, s5, s6, s7, s8, s9, .sh (.int out), .sh (txD (txo U x out)), .sh (.list (L.map txD)), .sh (.list (D.map natD)), f, .no]) := call_at (ss := [.sh (.list (L.map txD)), .sh (txD (txo U x out))]) rfl rfl br
  have st1 : pSet 14 (pCall fn_breaks (aCons false (pVar 12) (aCons false (pVar 11) aNil))) [sc, s1, s2, s3, s4, s5, s6, s7, s8, s9, .sh (.int out), .sh (txD (txo U x out)), .sh (.list (L.map txD)), .sh (.list (D.map natD)), f, .no] = some ([sc, s1, s2, s3, s4, s5, s6, s7, s8, s9, .sh (.int out), .sh (txD (txo U x out)), .sh (.list (L.map txD)), .sh (.list (D.map natD)), .sh (.bool (brk D out)), .no], .nx) := set_sh c1 (show 14 < 16 by decide)
  have lb := brk_call hD (E := [sc, s1, s2, s3, s4, s5, s6, s7, s8, s9, .sh (.int out), .sh (txD (txo U x out)), .sh (.list (L.map txD)), .sh (.list (D.map natD)), .sh (.bool (brk D out)), .no]) (i := 13) (out := out) rfl rfl
  have ne : isB (pBin pNe false (pVar 14) (pCall fn_law_breaks (aCons false (pVar 13) (aCons false (pVar 10) aNil)))) [sc, s1, s2, s3, s4, s5, s6, s7, s8, s9, .sh (.int out), .sh (txD (txo U x out)), .sh (.list (L.map txD)), .sh (.list (D.map natD)), .sh (.bool (brk D out)), .no] = some (false, [sc, s1, s2, s3, s4, s5, s6, s7, s8, s9, .sh (.int out), .sh (txD (txo U x out)), .sh (.list (L.map txD)), .sh (.list (D.map natD)), .sh (.bool (brk D out)), .no]) := by
    have v : pVar 14 [sc, s1, s2, s3, s4, s5, s6, s7, s8, s9, .sh (.int out), .sh (txD (txo U x out)), .sh (.list (L.map txD)), .sh (.list (D.map natD)), .sh (.bool (brk D out)), .no] = some (.sh (.bool (brk D out)), _) := rfl
    generalize pCall fn_law_breaks (aCons false (pVar 13) (aCons false (pVar 10) aNil)) = g at lb
    simp only [isB, pBin, v, lb, Option.bind_some, Bool.false_and, Bool.false_eq_true, if_false, pNe, sc2, look, Sl.val, dEq_bool, Option.map_some, decide_true, Bool.not_true]
  have is1 : tNotP (pTru (pUn (dIsi .bool) (pVar 14))) [sc, s1, s2, s3, s4, s5, s6, s7, s8, s9, .sh (.int out), .sh (txD (txo U x out)), .sh (.list (L.map txD)), .sh (.list (D.map natD)), .sh (.bool (brk D out)), .no] = some (false, [sc, s1, s2, s3, s4, s5, s6, s7, s8, s9, .sh (.int out), .sh (txD (txo U x out)), .sh (.list (L.map txD)), .sh (.list (D.map natD)), .sh (.bool (brk D out)), .no]) := rfl
  rw [tg, Option.bind_some, g_law_L1, seq_nx st1]
  exact if_no (or_no is1 ne) rfl
theorem st_out {U : List Nat} {x : Nat} {D1 D2 : List Nat} {L1 L2 : List (List Nat)} (c : Cx2 U x D1 D2 L1 L2) (sc o4 o5 a10 a11 a12 a13 a14 s2 s3 : Sl) (hs : (s2 = .ow (D1.map natD) ∧ s3 = .ow (D2.map natD)) ∨ (s2 = .sh (.list (D1.map natD)) ∧ s3 = .sh (.list (D2.map natD)))) (B Ei : List Nat) (out : Nat) (ho : out < 2 ^ U.length) (hb : B.length ≤ 1000) (he : Ei.length ≤ 1000) :
    ∃ b11 b12 b13 b14, (t_law_L0 (.int out) [sc, .ow (U.map stD), s2, s3, o4, o5, .ow (hnd L1 L2), .sh (stD x), .ow (B.map natD), .ow (Ei.map natD), a10, a11, a12, a13, a14, .no]).bind g_law_L0 =
      some ([sc, .ow (U.map stD), .sh (.list (D1.map natD)), .sh (.list (D2.map natD)), o4, o5, .ow (hnd L1 L2), .sh (stD x), .ow ((if brk D1 out && brk D2 out then B ++ [out] else B).map natD), .ow ((if brk D1 out || brk D2 out then Ei ++ [out] else Ei).map natD), .sh (.int out), b11, b12, b13, b14, .no], .nx) := by
  have tg : t_law_L0 (.int out) [sc, .ow (U.map stD), s2, s3, o4, o5, .ow (hnd L1 L2), .sh (stD x), .ow (B.map natD), .ow (Ei.map natD), a10, a11, a12, a13, a14, .no] = some [sc, .ow (U.map stD), s2, s3, o4, o5, .ow (hnd L1 L2), .sh (stD x), .ow (B.map natD), .ow (Ei.map natD), .sh (.int out), a11, a12, a13, a14, .no] := rfl
  have lu := c.u.len
  have cs : pCall fn_law_set (aCons false (pVar 10) (aCons false (pVar 1) aNil)) [sc, .ow (U.map stD), s2, s3, o4, o5, .ow (hnd L1 L2), .sh (stD x), .ow (B.map natD), .ow (Ei.map natD), .sh (.int out), a11, a12, a13, a14, .no] = some (.sh (txD (NhFam.setM U out)), [sc, .ow (U.map stD), s2, s3, o4, o5, .ow (hnd L1 L2), .sh (stD x), .ow (B.map natD), .ow (Ei.map natD), .sh (.int out), a11, a12, a13, a14, .no]) := call_at (ss := [.sh (.int out), .al 1]) rfl rfl (pv_law_set U out (by omega))
  have md := mod_at (E := [sc, .ow (U.map stD), s2, s3, o4, o5, .ow (hnd L1 L2), .sh (stD x), .ow (B.map natD), .ow (Ei.map natD), .sh (.int out), a11, a12, a13, a14, .no]) (f := pVar 10) (g := pC (.int 2)) (x := out) (y := 2) rfl rfl (by decide)
  rw [show (out : Int) % 2 = ((out % 2 : Nat) : Int) by omega] at md
  have mt := mul_tx x out
  have ms : pBin pMulS false (pVar 7) (pBin pMod false (pVar 10) (pC (.int 2))) [sc, .ow (U.map stD), s2, s3, o4, o5, .ow (hnd L1 L2), .sh (stD x), .ow (B.map natD), .ow (Ei.map natD), .sh (.int out), a11, a12, a13, a14, .no] = some (.sh (txD (if out % 2 = 1 then [x] else [])), [sc, .ow (U.map stD), s2, s3, o4, o5, .ow (hnd L1 L2), .sh (stD x), .ow (B.map natD), .ow (Ei.map natD), .sh (.int out), a11, a12, a13, a14, .no]) := by
    have v : pVar 7 [sc, .ow (U.map stD), s2, s3, o4, o5, .ow (hnd L1 L2), .sh (stD x), .ow (B.map natD), .ow (Ei.map natD), .sh (.int out), a11, a12, a13, a14, .no] = some (.sh (stD x), _) := rfl
    generalize pBin pMod false (pVar 10) (pC (.int 2)) = g at md
    have l1 : (⟨#[x]⟩ : Str).length ≤ 1000 := by show 1 ≤ 1000; decide
    have k1 : (-1000 : Int) ≤ ((out % 2 : Nat) : Int) := by omega
    have k2 : ((out % 2 : Nat) : Int) ≤ 1000 := by omega
    have dm : dMulT (stD x) (.int ((out % 2 : Nat) : Int)) = some (txD (if out % 2 = 1 then [x] else [])) := by
      unfold txD
      rw [← mt]
      simp only [dMulT, stD, l1, k1, k2, and_self, if_true, decide_true]
    simp only [pBin, v, md, Option.bind_some, Bool.false_and, Bool.false_eq_true, if_false, pMulS, sc2, look, Sl.val, dm, Option.map_some]
  have lm := (NhFam.setM_sub U out).length_le
  have ad : pBin pAdd false (pCall fn_law_set (aCons false (pVar 10) (aCons false (pVar 1) aNil))) (pBin pMulS false (pVar 7) (pBin pMod false (pVar 10) (pC (.int 2)))) [sc, .ow (U.map stD), s2, s3, o4, o5, .ow (hnd L1 L2), .sh (stD x), .ow (B.map natD), .ow (Ei.map natD), .sh (.int out), a11, a12, a13, a14, .no] = some (.sh (txD (txo U x out)), [sc, .ow (U.map stD), s2, s3, o4, o5, .ow (hnd L1 L2), .sh (stD x), .ow (B.map natD), .ow (Ei.map natD), .sh (.int out), a11, a12, a13, a14, .no]) := by
    generalize pCall fn_law_set (aCons false (pVar 10) (aCons false (pVar 1) aNil)) = f at cs
    generalize pBin pMulS false (pVar 7) (pBin pMod false (pVar 10) (pC (.int 2))) = g at ms
    have lx : (if out % 2 = 1 then [x] else []).length ≤ 1 := by split <;> simp
    have l1 := len_tx (NhFam.setM U out)
    have l2 := len_tx (if out % 2 = 1 then [x] else [])
    have ap := app_tx (NhFam.setM U out) (if out % 2 = 1 then [x] else [])
    have l : (NhFam.setM U out).length + (if out % 2 = 1 then [x] else []).length ≤ 1000000 := by omega
    unfold txD at cs ms
    simp only [pBin, cs, ms, Option.bind_some, Bool.false_and, Bool.false_eq_true, if_false, pAdd, look, Sl.val, l1, l2, l, if_true, ap]
    rfl
  have sA : pSet 11 (pBin pAdd false (pCall fn_law_set (aCons false (pVar 10) (aCons false (pVar 1) aNil))) (pBin pMulS false (pVar 7) (pBin pMod false (pVar 10) (pC (.int 2))))) [sc, .ow (U.map stD), s2, s3, o4, o5, .ow (hnd L1 L2), .sh (stD x), .ow (B.map natD), .ow (Ei.map natD), .sh (.int out), a11, a12, a13, a14, .no] = some ([sc, .ow (U.map stD), s2, s3, o4, o5, .ow (hnd L1 L2), .sh (stD x), .ow (B.map natD), .ow (Ei.map natD), .sh (.int out), .sh (txD (txo U x out)), a12, a13, a14, .no], .nx) := set_sh ad (show 11 < 16 by decide)
  have it : iAny (pLst (dCons (pTup (dCons (pBin pIx false (pVar 6) (pC (.int 0))) (dCons (pVar 2) dNil))) (dCons (pTup (dCons (pBin pIx false (pVar 6) (pC (.int 1))) (dCons (pVar 3) dNil))) dNil))) [sc, .ow (U.map stD), s2, s3, o4, o5, .ow (hnd L1 L2), .sh (stD x), .ow (B.map natD), .ow (Ei.map natD), .sh (.int out), .sh (txD (txo U x out)), a12, a13, a14, .no] = some ([.tuple [.list (L1.map txD), .list (D1.map natD)], .tuple [.list (L2.map txD), .list (D2.map natD)]], [sc, .ow (U.map stD), .sh (.list (D1.map natD)), .sh (.list (D2.map natD)), o4, o5, .ow (hnd L1 L2), .sh (stD x), .ow (B.map natD), .ow (Ei.map natD), .sh (.int out), .sh (txD (txo U x out)), a12, a13, a14, .no]) := by
    rcases hs with ⟨rfl, rfl⟩ | ⟨rfl, rfl⟩ <;> rfl
  have L1s := st_L1 c c.d1 c.f1 (c.s1 out ho) sc (.ow (U.map stD)) (.sh (.list (D1.map natD))) (.sh (.list (D2.map natD))) o4 o5 (.ow (hnd L1 L2)) (.sh (stD x)) (.ow (B.map natD)) (.ow (Ei.map natD)) a12 a13 a14
  have L2s := st_L1 c c.d2 c.f2 (c.s2 out ho) sc (.ow (U.map stD)) (.sh (.list (D1.map natD))) (.sh (.list (D2.map natD))) o4 o5 (.ow (hnd L1 L2)) (.sh (stD x)) (.ow (B.map natD)) (.ow (Ei.map natD)) (.sh (.list (L1.map txD))) (.sh (.list (D1.map natD))) (.sh (.bool (brk D1 out)))
  have sB : pFor (iAny (pLst (dCons (pTup (dCons (pBin pIx false (pVar 6) (pC (.int 0))) (dCons (pVar 2) dNil))) (dCons (pTup (dCons (pBin pIx false (pVar 6) (pC (.int 1))) (dCons (pVar 3) dNil))) dNil)))) t_law_L1 g_law_L1 [sc, .ow (U.map stD), s2, s3, o4, o5, .ow (hnd L1 L2), .sh (stD x), .ow (B.map natD), .ow (Ei.map natD), .sh (.int out), .sh (txD (txo U x out)), a12, a13, a14, .no] = some ([sc, .ow (U.map stD), .sh (.list (D1.map natD)), .sh (.list (D2.map natD)), o4, o5, .ow (hnd L1 L2), .sh (stD x), .ow (B.map natD), .ow (Ei.map natD), .sh (.int out), .sh (txD (txo U x out)), .sh (.list (L2.map txD)), .sh (.list (D2.map natD)), .sh (.bool (brk D2 out)), .no], .nx) := by
    unfold pFor
    rw [it, Option.bind_some, pLoop, L1s]
    show pLoop t_law_L1 g_law_L1 [.tuple [.list (L2.map txD), .list (D2.map natD)]] _ = _
    rw [pLoop, L2s]
    rfl
  have k1 : ∀ {E : List Sl}, E[2]? = some (.sh (.list (D1.map natD))) → E[10]? = some (.sh (.int out)) → pTru (pCall fn_law_breaks (aCons false (pVar 2) (aCons false (pVar 10) aNil))) E = some (brk D1 out, E) := fun h1 h2 => tru_of (brk_call c.d1 h1 h2)
  have k2 : ∀ {E : List Sl}, E[3]? = some (.sh (.list (D2.map natD))) → E[10]? = some (.sh (.int out)) → pTru (pCall fn_law_breaks (aCons false (pVar 3) (aCons false (pVar 10) aNil))) E = some (brk D2 out, E) := fun h1 h2 => tru_of (brk_call c.d2 h1 h2)
  have sC := app_if (E := [sc, .ow (U.map stD), .sh (.list (D1.map natD)), .sh (.list (D2.map natD)), o4, o5, .ow (hnd L1 L2), .sh (stD x), .ow (B.map natD), .ow (Ei.map natD), .sh (.int out), .sh (txD (txo U x out)), .sh (.list (L2.map txD)), .sh (.list (D2.map natD)), .sh (.bool (brk D2 out)), .no]) (K := B) (m := out) (i := 8) (and_any (k1 rfl rfl) (k2 rfl rfl)) rfl rfl (by omega)
  have sD := app_if (E := [sc, .ow (U.map stD), .sh (.list (D1.map natD)), .sh (.list (D2.map natD)), o4, o5, .ow (hnd L1 L2), .sh (stD x), .ow ((if brk D1 out && brk D2 out then B ++ [out] else B).map natD), .ow (Ei.map natD), .sh (.int out), .sh (txD (txo U x out)), .sh (.list (L2.map txD)), .sh (.list (D2.map natD)), .sh (.bool (brk D2 out)), .no]) (K := Ei) (m := out) (i := 9) (or_any (k1 rfl rfl) (k2 rfl rfl)) rfl rfl (by omega)
  refine ⟨.sh (txD (txo U x out)), .sh (.list (L2.map txD)), .sh (.list (D2.map natD)), .sh (.bool (brk D2 out)), ?_⟩
  rw [tg, Option.bind_some, g_law_L0, seq_nx sA, seq_nx sB, seq_nx sC]
  exact sD
noncomputable def outF (f : Nat → Bool) (lo c : Nat) : List Nat := (List.range' lo c).filter f
theorem pl_out {U : List Nat} {x : Nat} {D1 D2 : List Nat} {L1 L2 : List (List Nat)} (c : Cx2 U x D1 D2 L1 L2) (sc o4 o5 : Sl) : ∀ (k lo : Nat) (a10 a11 a12 a13 a14 s2 s3 : Sl) (B Ei : List Nat), ((s2 = .ow (D1.map natD) ∧ s3 = .ow (D2.map natD)) ∨ (s2 = .sh (.list (D1.map natD)) ∧ s3 = .sh (.list (D2.map natD)))) → lo + k ≤ 2 ^ U.length → B.length + k ≤ 1000 → Ei.length + k ≤ 1000 →
    ∃ b2 b3 b10 b11 b12 b13 b14, pLoop t_law_L0 g_law_L0 (rngD lo k) [sc, .ow (U.map stD), s2, s3, o4, o5, .ow (hnd L1 L2), .sh (stD x), .ow (B.map natD), .ow (Ei.map natD), a10, a11, a12, a13, a14, .no] =
      some ([sc, .ow (U.map stD), b2, b3, o4, o5, .ow (hnd L1 L2), .sh (stD x), .ow ((B ++ outF (fun o => brk D1 o && brk D2 o) lo k).map natD), .ow ((Ei ++ outF (fun o => brk D1 o || brk D2 o) lo k).map natD), b10, b11, b12, b13, b14, .no], .nx)
  | 0, lo, a10, a11, a12, a13, a14, s2, s3, B, Ei, _, _, _, _ => ⟨s2, s3, a10, a11, a12, a13, a14, by simp only [outF, List.range'_zero, List.filter_nil, List.append_nil]; rfl⟩
  | k + 1, lo, a10, a11, a12, a13, a14, s2, s3, B, Ei, hs, h1, h2, h3 => by
    obtain ⟨b11, b12, b13, b14, st⟩ := st_out c sc o4 o5 a10 a11 a12 a13 a14 s2 s3 hs B Ei lo (by omega) (by omega) (by omega)
    have z1 : (if brk D1 lo && brk D2 lo then B ++ [lo] else B).length ≤ B.length + 1 := by split <;> simp
    have z2 : (if brk D1 lo || brk D2 lo then Ei ++ [lo] else Ei).length ≤ Ei.length + 1 := by split <;> simp
    obtain ⟨c2, c3, c10, c11, c12, c13, c14, e⟩ := pl_out c sc o4 o5 k (lo + 1) (.sh (.int lo)) b11 b12 b13 b14 _ _ (if brk D1 lo && brk D2 lo then B ++ [lo] else B) (if brk D1 lo || brk D2 lo then Ei ++ [lo] else Ei) (.inr ⟨rfl, rfl⟩) (by omega) (by omega) (by omega)
    refine ⟨c2, c3, c10, c11, c12, c13, c14, ?_⟩
    have f1 : ∀ (f : Nat → Bool) (K : List Nat), K ++ outF f lo (k + 1) = (if f lo then K ++ [lo] else K) ++ outF f (lo + 1) k := fun f K => by
      unfold outF
      rw [List.range'_succ, List.filter_cons]
      cases f lo <;> simp
    rw [show ((lo + 1 : Nat) : Int) = (lo : Int) + 1 by omega] at e
    rw [rngD_succ, pLoop, st, f1, f1]
    exact e
theorem told_yes2 {L : List (List Nat)} {E : List Sl} {f g : PEv} {s1 s2 : Sl} (hf : f E = some (s1, E)) (hg : g E = some (s2, E)) (l1 : look E s1 = some (.list (L.map txD))) (l2 : look E s2 = some (.list (L.map txD))) (hl : L.length ≤ 1000) : pCall fn_law_told (aCons false f (aCons false g aNil)) E = some (.sh (.bool true), E) :=
  call_at (c := fn_law_told) (ar2 hf hg) (by simp only [lookA, l1, l2, Option.bind_some, Option.map_some]) (pv_law_told L hl)
theorem not_told {f : PEv} {E : List Sl} (h : f E = some (.sh (.bool true), E)) : tNotP (pTru f) E = some (false, E) := by
  simp only [tNotP, pTru, h, Option.bind_some, look, Sl.val, dTru, Option.map_some, Bool.not_true]
theorem ix_at {E : List Sl} {i k : Nat} {ds : List PyData} {d : PyData} (h : E[i]? = some (.ow ds)) (hd : ds[k]? = some d) : pBin pIx false (pVar i) (pC (.int k)) E = some (.sh d, E) := by
  have v : pVar i E = some (.al i, E) := by simp only [pVar, h]
  have e : look E (.al i) = some (.list ds) := by simp only [look, h, Option.bind_some, Sl.val]
  have ho : hot E (.al i) = false := by simp only [hot, h, Option.any_some, hot1]
  have a : atI ds (k : Int) = some d := by rw [atI_nat', hd]
  have e2 : look E (.sh (.int (k : Int))) = some (.int k) := rfl
  simp only [pBin, v, pC, Option.bind_some, Bool.false_and, Bool.false_eq_true, if_false, pIx, e, e2, a, Option.map_some, ho]
theorem lst2 {E : List Sl} {a b : PEv} {d1 d2 : List PyData} (ha : a E = some (.ow d1, E)) (hb : b E = some (.ow d2, E)) : pLst (dCons a (dCons b dNil)) E = some (.ow [.list d1, .list d2], E) := by
  have l : ([PyData.list d1, PyData.list d2] : List PyData).length ≤ 1000000 := by simp
  simp only [pLst, dCons, dNil, ha, hb, Option.bind_some, Option.map_some, frz, l, if_true]
theorem dEq_tx2 {L1 L2 : List (List Nat)} (h1 : ∀ w ∈ L1, ∀ a ∈ w, az a) (h2 : ∀ w ∈ L2, ∀ a ∈ w, az a) : dEq (.list (hnd L1 L2)) (.list (hnd L1 L2)) = some true := by
  have e : dEq (.list (hnd L1 L2)) (.list (hnd L1 L2)) = (if SeqAt.shaped (.list (hnd L1 L2)) && SeqAt.shaped (.list (hnd L1 L2)) then some (PyData.eqv (.list (hnd L1 L2)) (.list (hnd L1 L2))) else none) := rfl
  obtain ⟨a1, b1⟩ := tx_lay h1
  obtain ⟨a2, b2⟩ := tx_lay h2
  have s : SeqAt.shaped (.list (hnd L1 L2)) = true := by
    unfold SeqAt.shaped hnd
    simp only [PyData.canLay0, PyData.canLayAll0, PyData.depth, PyData.depthAll, a1, a2, b1, b2, Bool.and_self, Bool.true_and]
    decide
  rw [e, s]
  simp only [hnd, PyData.eqv, PyData.eqvAll, tx_eqv, Bool.and_self, if_true]
theorem pv_law (ns : List Int) (hns : ns.length ≤ 63) : fn_law [.list (ns.map .int)] = some (.sh (.bool true)) := by
  have g0 := Int.emod_nonneg (ns.getD 1 0) (show (5 : Int) ≠ 0 by decide)
  have g1 := Int.emod_lt_of_pos (ns.getD 1 0) (show (0 : Int) < 5 by decide)
  obtain ⟨many, hm⟩ : ∃ c : Nat, 1 + ns.getD 1 0 % 5 = (c : Int) := ⟨(1 + ns.getD 1 0 % 5).toNat, by omega⟩
  obtain ⟨w, wv, x, ew, lw, aw, nw, e6, ax, nx⟩ := nails2 (ns.getD 0 0) many (by omega)
  have u : Uni (inOrd w) := ⟨srt_inOrd w, fun a ha => aw a (inOrd_mem.mp ha).2, by rw [inOrd_count nw aw, lw]; omega⟩
  have ln : 1 ≤ (inOrd w).length := by rw [inOrd_count nw aw, lw]; omega
  have nxU : x ∉ inOrd w := fun h => nx (inOrd_mem.mp h).2
  have lu := u.len
  have l0 := pv_law_at ns 0
  have l1 := pv_law_at ns 1
  generalize hU : inOrd w = U at u ln lu nxU
  obtain ⟨M1, m1, b1, e1⟩ := pv_law_masks ns 2 U.length (by decide) ln (by omega)
  obtain ⟨M2, m2, b2, e2⟩ := pv_law_masks ns 7 U.length (by decide) ln (by omega)
  have q1 := pv_law_least M1 (by omega)
  have q2 := pv_law_least M2 (by omega)
  have leL : ∀ (O : List Nat) (r K : List Nat), (leD O K r).length ≤ K.length + r.length := fun O r => by
    induction r with
    | nil => intro K; simp [leD]
    | cons x r ih =>
      intro K
      unfold leD
      split
      · have := ih (K ++ [x]); simp at this ⊢; omega
      · have := ih K; simp; omega
  have n1 : (leD M1 [] M1).length ≤ 8 := by have := leL M1 M1 []; simp at this; omega
  have n2 : (leD M2 [] M2).length ≤ 8 := by have := leL M2 M2 []; simp at this; omega
  have t1 := masks_told u b1
  have t2 := masks_told u b2
  have tin : ∀ out a, a ∈ U → (a ∈ txo U x out ↔ a ∈ NhFam.setM U out) := fun out a ha => by
    unfold txo
    constructor
    · intro h
      rcases List.mem_append.mp h with z | z
      · exact z
      · split at z
        · rw [List.mem_singleton.mp z] at ha; exact absurd ha nxU
        · cases z
    · intro h; exact List.mem_append.mpr (.inl h)
  have bs1 : ∀ out, out < 2 ^ U.length → NhFam.upB (NhFam.sortT ((leD M1 [] M1).map (NhFam.setM U))) (inOrd (txo U x out)) = brk (leD M1 [] M1) out := fun out ho => br_same u b1 ho (tin out)
  have bs2 : ∀ out, out < 2 ^ U.length → NhFam.upB (NhFam.sortT ((leD M2 [] M2).map (NhFam.setM U))) (inOrd (txo U x out)) = brk (leD M2 [] M2) out := fun out ho => br_same u b2 ho (tin out)
  have bt1 : ∀ out, out < 2 ^ U.length → (NhFam.up (NhFam.sortT ((leD M1 [] M1).map (NhFam.setM U))) (NhFam.setM U out) ↔ brk (leD M1 [] M1) out = true) := fun out ho => by
    have := br_same u b1 ho (t := NhFam.setM U out) fun a _ => Iff.rfl
    rw [inOrd_id (NhFam.setM_Sub u.srt out).1 (u.azw (NhFam.setM_Sub u.srt out))] at this
    rw [← NhFam.upB_iff, this]
    rfl
  have bt2 : ∀ out, out < 2 ^ U.length → (NhFam.up (NhFam.sortT ((leD M2 [] M2).map (NhFam.setM U))) (NhFam.setM U out) ↔ brk (leD M2 [] M2) out = true) := fun out ho => by
    have := br_same u b2 ho (t := NhFam.setM U out) fun a _ => Iff.rfl
    rw [inOrd_id (NhFam.setM_Sub u.srt out).1 (u.azw (NhFam.setM_Sub u.srt out))] at this
    rw [← NhFam.upB_iff, this]
    rfl
  have d1 := pv_law_texts u (leD M1 [] M1) (by omega)
  have d2 := pv_law_texts u (leD M2 [] M2) (by omega)
  generalize hD1 : leD M1 [] M1 = D1 at *
  generalize hD2 : leD M2 [] M2 = D2 at *
  generalize hL1 : NhFam.sortT (D1.map (NhFam.setM U)) = L1 at *
  generalize hL2 : NhFam.sortT (D2.map (NhFam.setM U)) = L2 at *
  have f1 := told_fam u t1
  have f2 := told_fam u t2
  have cx : Cx2 U x D1 D2 L1 L2 := ⟨u, ax, n1, n2, f1, f2, bs1, bs2⟩
  have p5 : 2 ^ U.length ≤ 2 ^ 5 := Nat.pow_le_pow_right (by decide) lu
  have oF : ∀ (f : Nat → Bool), (outF f 0 (2 ^ U.length)).length ≤ 32 := fun f => Nat.le_trans (List.length_filter_le _ _) (by simp; omega)
  have hO1 : ∀ k, k ∈ outF (fun o => brk D1 o && brk D2 o) 0 (2 ^ U.length) ↔ k < 2 ^ U.length ∧ (NhFam.up L1 (NhFam.setM U k) ∧ NhFam.up L2 (NhFam.setM U k)) := fun k => by
    unfold outF
    rw [List.mem_filter, List.mem_range'_1]
    constructor
    · rintro ⟨h, e⟩
      simp only [Bool.and_eq_true] at e
      exact ⟨by omega, (bt1 k (by omega)).mpr e.1, (bt2 k (by omega)).mpr e.2⟩
    · rintro ⟨h, e1, e2⟩
      refine ⟨by omega, ?_⟩
      simp only [Bool.and_eq_true]
      exact ⟨(bt1 k h).mp e1, (bt2 k h).mp e2⟩
  have hO2 : ∀ k, k ∈ outF (fun o => brk D1 o || brk D2 o) 0 (2 ^ U.length) ↔ k < 2 ^ U.length ∧ (NhFam.up L1 (NhFam.setM U k) ∨ NhFam.up L2 (NhFam.setM U k)) := fun k => by
    unfold outF
    rw [List.mem_filter, List.mem_range'_1]
    constructor
    · rintro ⟨h, e⟩
      simp only [Bool.or_eq_true] at e
      exact ⟨by omega, e.elim (fun e => .inl ((bt1 k (by omega)).mpr e)) fun e => .inr ((bt2 k (by omega)).mpr e)⟩
    · rintro ⟨h, e⟩
      refine ⟨by omega, ?_⟩
      simp only [Bool.or_eq_true]
      exact e.elim (fun e => .inl ((bt1 k h).mp e)) fun e => .inr ((bt2 k h).mp e)
  have du1 := due_of u (both_mono U L1 L2) hO1
  have du2 := due_of u (or_mono U L1 L2) hO2
  have lF1 := oF (fun o => brk D1 o && brk D2 o)
  have lF2 := oF (fun o => brk D1 o || brk D2 o)
  obtain ⟨z2, z3, z10, z11, z12, z13, z14, lo⟩ := pl_out cx (.sh (.list (ns.map .int))) (.ow (L1.map txD)) (.ow (L2.map txD)) (2 ^ U.length) 0 .no .no .no .no .no (.ow (D1.map natD)) (.ow (D2.map natD)) [] [] (.inl ⟨rfl, rfl⟩) (by omega) (by simp; omega) (by simp; omega)
  rw [List.nil_append, List.nil_append] at lo
  generalize hO1e : outF (fun o => brk D1 o && brk D2 o) 0 (2 ^ U.length) = O1 at *
  generalize hO2e : outF (fun o => brk D1 o || brk D2 o) 0 (2 ^ U.length) = O2 at *
  have qb := pv_law_least O1 (by omega)
  have qe := pv_law_least O2 (by omega)
  have nb : (leD O1 [] O1).length ≤ 32 := by have := leL O1 O1 []; simp at this; omega
  have ne' : (leD O2 [] O2).length ≤ 32 := by have := leL O2 O2 []; simp at this; omega
  have db := pv_law_texts u (leD O1 [] O1) (by omega)
  have de := pv_law_texts u (leD O2 [] O2) (by omega)
  have len1 := told_len u t1
  have len2 := told_len u t2
  have x1 : NhFam.sortT ((leD O1 [] O1).map (NhFam.setM U)) = bothV L1 L2 := du1.uniq (bothV_told u f1 f2) fun w _ => Iff.rfl
  have x2 : NhFam.sortT ((leD O1 [] O1).map (NhFam.setM U)) = bothV L2 L1 := du1.uniq (bothV_told u f2 f1) fun w _ => and_comm
  have x3 : NhFam.sortT ((leD O2 [] O2).map (NhFam.setM U)) = NhFam.leastT (L1 ++ L2) := du2.uniq (NhFam.either_told f1.sub f2.sub) fun w _ => Iff.rfl
  have x4 : NhFam.sortT ((leD O2 [] O2).map (NhFam.setM U)) = NhFam.leastT (L2 ++ L1) := du2.uniq (NhFam.either_told f2.sub f1.sub) fun w _ => or_comm
  have P1 := pv_both_rules u f1 f2
  have P2 := pv_both_rules u f2 f1
  have P3 := pv_either_rule u f1 f2 (by omega)
  have P4 := pv_either_rule u f2 f1 (by omega)
  have y1 : NhFam.bothT L1 L2 (inOrd (L1 ++ L2).flatten) = bothV L1 L2 := rfl
  have y2 : NhFam.bothT L2 L1 (inOrd (L2 ++ L1).flatten) = bothV L2 L1 := rfl
  rw [y1, ← x1] at P1
  rw [y2, ← x2] at P2
  rw [← x3] at P3
  rw [← x4] at P4
  have lenB := told_len u du1
  have lenE := told_len u du2
  have az1 := f1.azs u
  have az2 := f2.azs u
  generalize hSB : NhFam.sortT ((leD O1 [] O1).map (NhFam.setM U)) = SB at *
  generalize hSE : NhFam.sortT ((leD O2 [] O2).map (NhFam.setM U)) = SE at *
  generalize hDB : leD O1 [] O1 = DB at *
  generalize hDE : leD O2 [] O2 = DE at *
  have ml : ∀ {L : List (List Nat)}, L.length ≤ 31 → (L.map txD).length ≤ 1000000 := fun {L} h => by rw [List.length_map]; omega
  have g : fn_law [.list (ns.map .int)] = (g_law [.sh (.list (ns.map .int)), .no, .no, .no, .no, .no, .no, .no, .no, .no, .no, .no, .no, .no, .no, .no]).bind fun a => match a.2 with | .rt r => outS r | .nx => some (.sh .none) | _ => none := rfl
  have s1 : pSet 1 (pSorted (pCall fn_law_nails (aCons false (pCall fn_law_at (aCons false (pVar 0) (aCons false (pC (.int 0)) aNil))) (aCons false (pBin pAdd false (pC (.int 1)) (pBin pMod false (pCall fn_law_at (aCons false (pVar 0) (aCons false (pC (.int 1)) aNil))) (pC (.int 5)))) aNil)))) [.sh (.list (ns.map .int)), .no, .no, .no, .no, .no, .no, .no, .no, .no, .no, .no, .no, .no, .no, .no] = some ([.sh (.list (ns.map .int)), .ow (U.map stD), .no, .no, .no, .no, .no, .no, .no, .no, .no, .no, .no, .no, .no, .no], .nx) := by
    have c0 := call_at (c := fn_law_at) (g := aCons false (pVar 0) (aCons false (pC (.int 0)) aNil)) (E := [.sh (.list (ns.map .int)), .no, .no, .no, .no, .no, .no, .no, .no, .no, .no, .no, .no, .no, .no, .no]) (ss := [.sh (.list (ns.map .int)), .sh (.int 0)]) rfl rfl l0
    have c1 := call_at (c := fn_law_at) (g := aCons false (pVar 0) (aCons false (pC (.int 1)) aNil)) (E := [.sh (.list (ns.map .int)), .no, .no, .no, .no, .no, .no, .no, .no, .no, .no, .no, .no, .no, .no, .no]) (ss := [.sh (.list (ns.map .int)), .sh (.int 1)]) rfl rfl l1
    have md := mod_at c1 (show pC (.int 5) [.sh (.list (ns.map .int)), .no, .no, .no, .no, .no, .no, .no, .no, .no, .no, .no, .no, .no, .no, .no] = some (.sh (.int 5), _) from rfl) (by decide)
    have ad := call_add (g := pC (.int 1)) (x := 1) (E := [.sh (.list (ns.map .int)), .no, .no, .no, .no, .no, .no, .no, .no, .no, .no, .no, .no, .no, .no, .no]) rfl md
    rw [hm] at ad
    have cn := call_at (c := fn_law_nails) (ar2 c0 ad) rfl ew
    have so := sorted_at cn (by omega) nw aw
    rw [hU] at so
    exact set_ow so (show 1 < 16 by decide)
  have lenU : ∀ {E : List Sl}, E[1]? = some (.ow (U.map stD)) → pCaS dLen (aCons false (pVar 1) aNil) E = some (.sh (.int (U.length : Int)), E) := fun {E} h => by
    have := len_at h (by rw [List.length_map]; omega)
    rw [List.length_map] at this
    exact this
  have sM : ∀ (i : Nat) (fi : Int) (M D : List Nat) (E : List Sl), E[0]? = some (.sh (.list (ns.map .int))) → E[1]? = some (.ow (U.map stD)) → i < E.length → fn_law_masks [.list (ns.map .int), .int fi, .int (U.length : Int), .int 8] = some (.ow (M.map natD)) → fn_law_least [.list (M.map natD)] = some (.ow (D.map natD)) →
      pSet i (pCall fn_law_least (aCons false (pCall fn_law_masks (aCons false (pVar 0) (aCons false (pC (.int fi)) (aCons false (pCaS dLen (aCons false (pVar 1) aNil)) (aCons false (pC (.int 8)) aNil))))) aNil)) E = some (E.set i (.ow (D.map natD)), .nx) := fun i fi M D E h0 h1 hi hm hd => by
    have le := lenU h1
    have v0 : pVar 0 E = some (.sh (.list (ns.map .int)), E) := by simp only [pVar, h0]
    have cm := call_at (c := fn_law_masks) (g := aCons false (pVar 0) (aCons false (pC (.int fi)) (aCons false (pCaS dLen (aCons false (pVar 1) aNil)) (aCons false (pC (.int 8)) aNil)))) (E := E) (E1 := E) (ss := [.sh (.list (ns.map .int)), .sh (.int fi), .sh (.int (U.length : Int)), .sh (.int 8)]) (by simp only [aCons, aNil, le, v0, pC, Option.bind_some, Option.map_some, Bool.false_and, Bool.false_eq_true, if_false]) rfl hm
    exact set_ow (call_at (ar1 cm) rfl hd) hi
  have s2 := sM 2 2 M1 D1 [.sh (.list (ns.map .int)), .ow (U.map stD), .no, .no, .no, .no, .no, .no, .no, .no, .no, .no, .no, .no, .no, .no] rfl rfl (by simp) e1 q1
  have s3 := sM 3 7 M2 D2 [.sh (.list (ns.map .int)), .ow (U.map stD), .ow (D1.map natD), .no, .no, .no, .no, .no, .no, .no, .no, .no, .no, .no, .no, .no] rfl rfl (by simp) e2 q2
  have s4 : pSet 4 (pCall fn_law_texts (aCons false (pVar 2) (aCons false (pVar 1) aNil))) [.sh (.list (ns.map .int)), .ow (U.map stD), .ow (D1.map natD), .ow (D2.map natD), .no, .no, .no, .no, .no, .no, .no, .no, .no, .no, .no, .no] = some ([.sh (.list (ns.map .int)), .ow (U.map stD), .ow (D1.map natD), .ow (D2.map natD), .ow (L1.map txD), .no, .no, .no, .no, .no, .no, .no, .no, .no, .no, .no], .nx) := by
    have c : pCall fn_law_texts (aCons false (pVar 2) (aCons false (pVar 1) aNil)) [.sh (.list (ns.map .int)), .ow (U.map stD), .ow (D1.map natD), .ow (D2.map natD), .no, .no, .no, .no, .no, .no, .no, .no, .no, .no, .no, .no] = some (.ow (L1.map txD), [.sh (.list (ns.map .int)), .ow (U.map stD), .ow (D1.map natD), .ow (D2.map natD), .no, .no, .no, .no, .no, .no, .no, .no, .no, .no, .no, .no]) := call_at (ss := [.al 2, .al 1]) rfl rfl d1
    exact set_ow c (show 4 < 16 by decide)
  have s5 : pSet 5 (pCall fn_law_texts (aCons false (pVar 3) (aCons false (pVar 1) aNil))) [.sh (.list (ns.map .int)), .ow (U.map stD), .ow (D1.map natD), .ow (D2.map natD), .ow (L1.map txD), .no, .no, .no, .no, .no, .no, .no, .no, .no, .no, .no] = some ([.sh (.list (ns.map .int)), .ow (U.map stD), .ow (D1.map natD), .ow (D2.map natD), .ow (L1.map txD), .ow (L2.map txD), .no, .no, .no, .no, .no, .no, .no, .no, .no, .no], .nx) := by
    have c : pCall fn_law_texts (aCons false (pVar 3) (aCons false (pVar 1) aNil)) [.sh (.list (ns.map .int)), .ow (U.map stD), .ow (D1.map natD), .ow (D2.map natD), .ow (L1.map txD), .no, .no, .no, .no, .no, .no, .no, .no, .no, .no, .no] = some (.ow (L2.map txD), [.sh (.list (ns.map .int)), .ow (U.map stD), .ow (D1.map natD), .ow (D2.map natD), .ow (L1.map txD), .no, .no, .no, .no, .no, .no, .no, .no, .no, .no, .no]) := call_at (ss := [.al 3, .al 1]) rfl rfl d2
    exact set_ow c (show 5 < 16 by decide)
  have o4 := lstOf_at (E := [.sh (.list (ns.map .int)), .ow (U.map stD), .ow (D1.map natD), .ow (D2.map natD), .ow (L1.map txD), .ow (L2.map txD), .no, .no, .no, .no, .no, .no, .no, .no, .no, .no]) (i := 4) (ds := L1.map txD) rfl (ml len1)
  have o5 := lstOf_at (E := [.sh (.list (ns.map .int)), .ow (U.map stD), .ow (D1.map natD), .ow (D2.map natD), .ow (L1.map txD), .ow (L2.map txD), .no, .no, .no, .no, .no, .no, .no, .no, .no, .no]) (i := 5) (ds := L2.map txD) rfl (ml len2)
  have s6 : pSet 6 (pLst (dCons (pLstOf (pVar 4)) (dCons (pLstOf (pVar 5)) dNil))) [.sh (.list (ns.map .int)), .ow (U.map stD), .ow (D1.map natD), .ow (D2.map natD), .ow (L1.map txD), .ow (L2.map txD), .no, .no, .no, .no, .no, .no, .no, .no, .no, .no] = some ([.sh (.list (ns.map .int)), .ow (U.map stD), .ow (D1.map natD), .ow (D2.map natD), .ow (L1.map txD), .ow (L2.map txD), .ow (hnd L1 L2), .no, .no, .no, .no, .no, .no, .no, .no, .no], .nx) := by
    have c : pLst (dCons (pLstOf (pVar 4)) (dCons (pLstOf (pVar 5)) dNil)) [.sh (.list (ns.map .int)), .ow (U.map stD), .ow (D1.map natD), .ow (D2.map natD), .ow (L1.map txD), .ow (L2.map txD), .no, .no, .no, .no, .no, .no, .no, .no, .no, .no] = some (.ow (hnd L1 L2), [.sh (.list (ns.map .int)), .ow (U.map stD), .ow (D1.map natD), .ow (D2.map natD), .ow (L1.map txD), .ow (L2.map txD), .no, .no, .no, .no, .no, .no, .no, .no, .no, .no]) := by
      exact lst2 o4 o5
    exact set_ow c (show 6 < 16 by decide)
  have s7 : pSet 7 (pBin pIx false (pCall fn_law_nails (aCons false (pCall fn_law_at (aCons false (pVar 0) (aCons false (pC (.int 0)) aNil))) (aCons false (pC (.int 6)) aNil))) (pUn dNeg (pC (.int 1)))) [.sh (.list (ns.map .int)), .ow (U.map stD), .ow (D1.map natD), .ow (D2.map natD), .ow (L1.map txD), .ow (L2.map txD), .ow (hnd L1 L2), .no, .no, .no, .no, .no, .no, .no, .no, .no] = some ([.sh (.list (ns.map .int)), .ow (U.map stD), .ow (D1.map natD), .ow (D2.map natD), .ow (L1.map txD), .ow (L2.map txD), .ow (hnd L1 L2), .sh (stD x), .no, .no, .no, .no, .no, .no, .no, .no], .nx) := by
    have c0 := call_at (c := fn_law_at) (g := aCons false (pVar 0) (aCons false (pC (.int 0)) aNil)) (E := [.sh (.list (ns.map .int)), .ow (U.map stD), .ow (D1.map natD), .ow (D2.map natD), .ow (L1.map txD), .ow (L2.map txD), .ow (hnd L1 L2), .no, .no, .no, .no, .no, .no, .no, .no, .no]) (ss := [.sh (.list (ns.map .int)), .sh (.int 0)]) rfl rfl l0
    have cn := call_at (c := fn_law_nails) (ar2 c0 (show pC (.int 6) [.sh (.list (ns.map .int)), .ow (U.map stD), .ow (D1.map natD), .ow (D2.map natD), .ow (L1.map txD), .ow (L2.map txD), .ow (hnd L1 L2), .no, .no, .no, .no, .no, .no, .no, .no, .no] = some (.sh (.int 6), _) from rfl)) rfl e6
    have la := last_at wv x
    have c : pBin pIx false (pCall fn_law_nails (aCons false (pCall fn_law_at (aCons false (pVar 0) (aCons false (pC (.int 0)) aNil))) (aCons false (pC (.int 6)) aNil))) (pUn dNeg (pC (.int 1))) [.sh (.list (ns.map .int)), .ow (U.map stD), .ow (D1.map natD), .ow (D2.map natD), .ow (L1.map txD), .ow (L2.map txD), .ow (hnd L1 L2), .no, .no, .no, .no, .no, .no, .no, .no, .no] = some (.sh (stD x), [.sh (.list (ns.map .int)), .ow (U.map stD), .ow (D1.map natD), .ow (D2.map natD), .ow (L1.map txD), .ow (L2.map txD), .ow (hnd L1 L2), .no, .no, .no, .no, .no, .no, .no, .no, .no]) := by
      generalize pCall fn_law_nails (aCons false (pCall fn_law_at (aCons false (pVar 0) (aCons false (pC (.int 0)) aNil))) (aCons false (pC (.int 6)) aNil)) = f at cn
      have n1 : pUn dNeg (pC (.int 1)) [.sh (.list (ns.map .int)), .ow (U.map stD), .ow (D1.map natD), .ow (D2.map natD), .ow (L1.map txD), .ow (L2.map txD), .ow (hnd L1 L2), .no, .no, .no, .no, .no, .no, .no, .no, .no] = some (.sh (.int (-1)), [.sh (.list (ns.map .int)), .ow (U.map stD), .ow (D1.map natD), .ow (D2.map natD), .ow (L1.map txD), .ow (L2.map txD), .ow (hnd L1 L2), .no, .no, .no, .no, .no, .no, .no, .no, .no]) := rfl
      simp only [pBin, cn, n1, Option.bind_some, Bool.false_and, Bool.false_eq_true, if_false, pIx, look, Sl.val, la, Option.map_some, hot, hot1]
    exact set_sh c (show 7 < 16 by decide)
  have s8 : ∀ y : Sl, pSet 8 (pLst dNil) [.sh (.list (ns.map .int)), .ow (U.map stD), .ow (D1.map natD), .ow (D2.map natD), .ow (L1.map txD), .ow (L2.map txD), .ow (hnd L1 L2), .sh (stD x), .no, y, .no, .no, .no, .no, .no, .no] = some ([.sh (.list (ns.map .int)), .ow (U.map stD), .ow (D1.map natD), .ow (D2.map natD), .ow (L1.map txD), .ow (L2.map txD), .ow (hnd L1 L2), .sh (stD x), .ow [], y, .no, .no, .no, .no, .no, .no], .nx) := fun y => rfl
  have s9 : pSet 9 (pLst dNil) [.sh (.list (ns.map .int)), .ow (U.map stD), .ow (D1.map natD), .ow (D2.map natD), .ow (L1.map txD), .ow (L2.map txD), .ow (hnd L1 L2), .sh (stD x), .ow [], .no, .no, .no, .no, .no, .no, .no] = some ([.sh (.list (ns.map .int)), .ow (U.map stD), .ow (D1.map natD), .ow (D2.map natD), .ow (L1.map txD), .ow (L2.map txD), .ow (hnd L1 L2), .sh (stD x), .ow [], .ow [], .no, .no, .no, .no, .no, .no], .nx) := rfl
  have s10 : pFor (iRng1P (aCons false (pBin pShl false (pC (.int 1)) (pCaS dLen (aCons false (pVar 1) aNil))) aNil)) t_law_L0 g_law_L0 [.sh (.list (ns.map .int)), .ow (U.map stD), .ow (D1.map natD), .ow (D2.map natD), .ow (L1.map txD), .ow (L2.map txD), .ow (hnd L1 L2), .sh (stD x), .ow [], .ow [], .no, .no, .no, .no, .no, .no] = some ([.sh (.list (ns.map .int)), .ow (U.map stD), z2, z3, .ow (L1.map txD), .ow (L2.map txD), .ow (hnd L1 L2), .sh (stD x), .ow (O1.map natD), .ow (O2.map natD), z10, z11, z12, z13, z14, .no], .nx) := by
    have le := lenU (E := [.sh (.list (ns.map .int)), .ow (U.map stD), .ow (D1.map natD), .ow (D2.map natD), .ow (L1.map txD), .ow (L2.map txD), .ow (hnd L1 L2), .sh (stD x), .ow [], .ow [], .no, .no, .no, .no, .no, .no]) rfl
    have it := rng_at (shl_at (f := pC (.int 1)) (y := U.length) rfl le (by omega)) (c := 2 ^ U.length) rfl (by omega)
    unfold pFor
    rw [it, Option.bind_some]
    exact lo
  have cB : pCall fn_law_texts (aCons false (pCall fn_law_least (aCons false (pVar 8) aNil)) (aCons false (pVar 1) aNil)) [.sh (.list (ns.map .int)), .ow (U.map stD), z2, z3, .ow (L1.map txD), .ow (L2.map txD), .ow (hnd L1 L2), .sh (stD x), .ow (O1.map natD), .ow (O2.map natD), z10, z11, z12, z13, z14, .no] = some (.ow (SB.map txD), [.sh (.list (ns.map .int)), .ow (U.map stD), z2, z3, .ow (L1.map txD), .ow (L2.map txD), .ow (hnd L1 L2), .sh (stD x), .ow (O1.map natD), .ow (O2.map natD), z10, z11, z12, z13, z14, .no]) := by
    have c1 : pCall fn_law_least (aCons false (pVar 8) aNil) [.sh (.list (ns.map .int)), .ow (U.map stD), z2, z3, .ow (L1.map txD), .ow (L2.map txD), .ow (hnd L1 L2), .sh (stD x), .ow (O1.map natD), .ow (O2.map natD), z10, z11, z12, z13, z14, .no] = some (.ow (DB.map natD), [.sh (.list (ns.map .int)), .ow (U.map stD), z2, z3, .ow (L1.map txD), .ow (L2.map txD), .ow (hnd L1 L2), .sh (stD x), .ow (O1.map natD), .ow (O2.map natD), z10, z11, z12, z13, z14, .no]) := call_at (ss := [.al 8]) rfl rfl qb
    exact call_at (ar2 c1 (show pVar 1 _ = some (.al 1, _) from rfl)) rfl db
  have cE : pCall fn_law_texts (aCons false (pCall fn_law_least (aCons false (pVar 9) aNil)) (aCons false (pVar 1) aNil)) [.sh (.list (ns.map .int)), .ow (U.map stD), z2, z3, .ow (L1.map txD), .ow (L2.map txD), .ow (hnd L1 L2), .sh (stD x), .ow (O1.map natD), .ow (O2.map natD), z10, z11, z12, z13, z14, .no] = some (.ow (SE.map txD), [.sh (.list (ns.map .int)), .ow (U.map stD), z2, z3, .ow (L1.map txD), .ow (L2.map txD), .ow (hnd L1 L2), .sh (stD x), .ow (O1.map natD), .ow (O2.map natD), z10, z11, z12, z13, z14, .no]) := by
    have c1 : pCall fn_law_least (aCons false (pVar 9) aNil) [.sh (.list (ns.map .int)), .ow (U.map stD), z2, z3, .ow (L1.map txD), .ow (L2.map txD), .ow (hnd L1 L2), .sh (stD x), .ow (O1.map natD), .ow (O2.map natD), z10, z11, z12, z13, z14, .no] = some (.ow (DE.map natD), [.sh (.list (ns.map .int)), .ow (U.map stD), z2, z3, .ow (L1.map txD), .ow (L2.map txD), .ow (hnd L1 L2), .sh (stD x), .ow (O1.map natD), .ow (O2.map natD), z10, z11, z12, z13, z14, .no]) := call_at (ss := [.al 9]) rfl rfl qe
    exact call_at (ar2 c1 (show pVar 1 _ = some (.al 1, _) from rfl)) rfl de
  have s11 : pSet 15 (pLst (dCons (pCall fn_law_texts (aCons false (pCall fn_law_least (aCons false (pVar 8) aNil)) (aCons false (pVar 1) aNil))) (dCons (pCall fn_law_texts (aCons false (pCall fn_law_least (aCons false (pVar 9) aNil)) (aCons false (pVar 1) aNil))) dNil))) [.sh (.list (ns.map .int)), .ow (U.map stD), z2, z3, .ow (L1.map txD), .ow (L2.map txD), .ow (hnd L1 L2), .sh (stD x), .ow (O1.map natD), .ow (O2.map natD), z10, z11, z12, z13, z14, .no] = some ([.sh (.list (ns.map .int)), .ow (U.map stD), z2, z3, .ow (L1.map txD), .ow (L2.map txD), .ow (hnd L1 L2), .sh (stD x), .ow (O1.map natD), .ow (O2.map natD), z10, z11, z12, z13, z14, .ow (hnd SB SE)], .nx) := by
    have c : pLst (dCons (pCall fn_law_texts (aCons false (pCall fn_law_least (aCons false (pVar 8) aNil)) (aCons false (pVar 1) aNil))) (dCons (pCall fn_law_texts (aCons false (pCall fn_law_least (aCons false (pVar 9) aNil)) (aCons false (pVar 1) aNil))) dNil)) [.sh (.list (ns.map .int)), .ow (U.map stD), z2, z3, .ow (L1.map txD), .ow (L2.map txD), .ow (hnd L1 L2), .sh (stD x), .ow (O1.map natD), .ow (O2.map natD), z10, z11, z12, z13, z14, .no] = some (.ow (hnd SB SE), [.sh (.list (ns.map .int)), .ow (U.map stD), z2, z3, .ow (L1.map txD), .ow (L2.map txD), .ow (hnd L1 L2), .sh (stD x), .ow (O1.map natD), .ow (O2.map natD), z10, z11, z12, z13, z14, .no]) := by
      exact lst2 cB cE
    exact set_ow c (show 15 < 16 by decide)
  have kb : ∀ (y o4 o5 : Sl), pCall fn_both_rules (aCons false (pBin pIx false (pVar 6) (pC (.int 0))) (aCons false (pBin pIx false (pVar 6) (pC (.int 1))) aNil)) [.sh (.list (ns.map .int)), .ow (U.map stD), z2, z3, o4, o5, .ow (hnd L1 L2), .sh (stD x), .ow (O1.map natD), .ow (O2.map natD), z10, z11, z12, z13, y, .ow (hnd SB SE)] = some (.ow (SB.map txD), [.sh (.list (ns.map .int)), .ow (U.map stD), z2, z3, o4, o5, .ow (hnd L1 L2), .sh (stD x), .ow (O1.map natD), .ow (O2.map natD), z10, z11, z12, z13, y, .ow (hnd SB SE)]) := fun y o4 o5 => call_at (ar2 (ix_at (i := 6) (k := 0) rfl rfl) (ix_at (i := 6) (k := 1) rfl rfl)) rfl P1
  have kb2 : ∀ (y o4 o5 : Sl), pCall fn_both_rules (aCons false (pBin pIx false (pVar 6) (pC (.int 1))) (aCons false (pBin pIx false (pVar 6) (pC (.int 0))) aNil)) [.sh (.list (ns.map .int)), .ow (U.map stD), z2, z3, o4, o5, .ow (hnd L1 L2), .sh (stD x), .ow (O1.map natD), .ow (O2.map natD), z10, z11, z12, z13, y, .ow (hnd SB SE)] = some (.ow (SB.map txD), [.sh (.list (ns.map .int)), .ow (U.map stD), z2, z3, o4, o5, .ow (hnd L1 L2), .sh (stD x), .ow (O1.map natD), .ow (O2.map natD), z10, z11, z12, z13, y, .ow (hnd SB SE)]) := fun y o4 o5 => call_at (ar2 (ix_at (i := 6) (k := 1) rfl rfl) (ix_at (i := 6) (k := 0) rfl rfl)) rfl P2
  have ke : ∀ (y o4 o5 : Sl), pCall fn_either_rule (aCons false (pBin pIx false (pVar 6) (pC (.int 0))) (aCons false (pBin pIx false (pVar 6) (pC (.int 1))) aNil)) [.sh (.list (ns.map .int)), .ow (U.map stD), z2, z3, o4, o5, .ow (hnd L1 L2), .sh (stD x), .ow (O1.map natD), .ow (O2.map natD), z10, z11, z12, z13, y, .ow (hnd SB SE)] = some (.ow (SE.map txD), [.sh (.list (ns.map .int)), .ow (U.map stD), z2, z3, o4, o5, .ow (hnd L1 L2), .sh (stD x), .ow (O1.map natD), .ow (O2.map natD), z10, z11, z12, z13, y, .ow (hnd SB SE)]) := fun y o4 o5 => call_at (ar2 (ix_at (i := 6) (k := 0) rfl rfl) (ix_at (i := 6) (k := 1) rfl rfl)) rfl P3
  have ke2 : ∀ (y o4 o5 : Sl), pCall fn_either_rule (aCons false (pBin pIx false (pVar 6) (pC (.int 1))) (aCons false (pBin pIx false (pVar 6) (pC (.int 0))) aNil)) [.sh (.list (ns.map .int)), .ow (U.map stD), z2, z3, o4, o5, .ow (hnd L1 L2), .sh (stD x), .ow (O1.map natD), .ow (O2.map natD), z10, z11, z12, z13, y, .ow (hnd SB SE)] = some (.ow (SE.map txD), [.sh (.list (ns.map .int)), .ow (U.map stD), z2, z3, o4, o5, .ow (hnd L1 L2), .sh (stD x), .ow (O1.map natD), .ow (O2.map natD), z10, z11, z12, z13, y, .ow (hnd SB SE)]) := fun y o4 o5 => call_at (ar2 (ix_at (i := 6) (k := 1) rfl rfl) (ix_at (i := 6) (k := 0) rfl rfl)) rfl P4
  have s12 : pSet 14 (pCall fn_both_rules (aCons false (pBin pIx false (pVar 6) (pC (.int 0))) (aCons false (pBin pIx false (pVar 6) (pC (.int 1))) aNil))) [.sh (.list (ns.map .int)), .ow (U.map stD), z2, z3, .ow (L1.map txD), .ow (L2.map txD), .ow (hnd L1 L2), .sh (stD x), .ow (O1.map natD), .ow (O2.map natD), z10, z11, z12, z13, z14, .ow (hnd SB SE)] = some ([.sh (.list (ns.map .int)), .ow (U.map stD), z2, z3, .ow (L1.map txD), .ow (L2.map txD), .ow (hnd L1 L2), .sh (stD x), .ow (O1.map natD), .ow (O2.map natD), z10, z11, z12, z13, .ow (SB.map txD), .ow (hnd SB SE)], .nx) := set_ow (kb _ _ _) (show 14 < 16 by decide)
  have ty1 := told_yes2 (L := SB) (E := [.sh (.list (ns.map .int)), .ow (U.map stD), z2, z3, .ow (L1.map txD), .ow (L2.map txD), .ow (hnd L1 L2), .sh (stD x), .ow (O1.map natD), .ow (O2.map natD), z10, z11, z12, z13, .ow (SB.map txD), .ow (hnd SB SE)]) (f := pVar 14) (g := pBin pIx false (pVar 15) (pC (.int 0))) (s1 := .al 14) rfl (ix_at (i := 15) (k := 0) rfl rfl) rfl rfl (by omega)
  have ty2 := told_yes2 (L := SE) (g := pBin pIx false (pVar 15) (pC (.int 1))) (ke (.ow (SB.map txD)) (.ow (L1.map txD)) (.ow (L2.map txD))) (ix_at (i := 15) (k := 1) rfl rfl) rfl rfl (by omega)
  have c13 := or_no (not_told ty1) (not_told ty2)
  have s14 : pExpr (pAppend 14 (pC (.str ""))) [.sh (.list (ns.map .int)), .ow (U.map stD), z2, z3, .ow (L1.map txD), .ow (L2.map txD), .ow (hnd L1 L2), .sh (stD x), .ow (O1.map natD), .ow (O2.map natD), z10, z11, z12, z13, .ow (SB.map txD), .ow (hnd SB SE)] = some ([.sh (.list (ns.map .int)), .ow (U.map stD), z2, z3, .ow (L1.map txD), .ow (L2.map txD), .ow (hnd L1 L2), .sh (stD x), .ow (O1.map natD), .ow (O2.map natD), z10, z11, z12, z13, .ow (SB.map txD ++ [.str ""]), .ow (hnd SB SE)], .nx) := by
    have lb : SB.length < 1000000 := by omega
    simp only [pExpr, pAppend, List.getElem?_cons_succ, List.getElem?_cons_zero, pC, frz, Option.bind_some, List.length_map, lb, List.set_cons_succ, List.set_cons_zero, if_true, Option.map_some]
  have s15 : pExpr (pAppT (pCall fn_either_rule (aCons false (pBin pIx false (pVar 6) (pC (.int 0))) (aCons false (pBin pIx false (pVar 6) (pC (.int 1))) aNil))) (.str "")) [.sh (.list (ns.map .int)), .ow (U.map stD), z2, z3, .ow (L1.map txD), .ow (L2.map txD), .ow (hnd L1 L2), .sh (stD x), .ow (O1.map natD), .ow (O2.map natD), z10, z11, z12, z13, .ow (SB.map txD ++ [.str ""]), .ow (hnd SB SE)] = some ([.sh (.list (ns.map .int)), .ow (U.map stD), z2, z3, .ow (L1.map txD), .ow (L2.map txD), .ow (hnd L1 L2), .sh (stD x), .ow (O1.map natD), .ow (O2.map natD), z10, z11, z12, z13, .ow (SB.map txD ++ [.str ""]), .ow (hnd SB SE)], .nx) := by
    have lb : SE.length < 1000000 := by omega
    have h := ke (.ow (SB.map txD ++ [.str ""])) (.ow (L1.map txD)) (.ow (L2.map txD))
    simp only [pExpr, pAppT, h, Option.bind_some, List.length_map, lb, if_true, Option.map_some]
  have c16 : isB (pBin pNe false (pVar 6) (pLst (dCons (pVar 4) (dCons (pVar 5) dNil)))) [.sh (.list (ns.map .int)), .ow (U.map stD), z2, z3, .ow (L1.map txD), .ow (L2.map txD), .ow (hnd L1 L2), .sh (stD x), .ow (O1.map natD), .ow (O2.map natD), z10, z11, z12, z13, .ow (SB.map txD ++ [.str ""]), .ow (hnd SB SE)] = some (false, [.sh (.list (ns.map .int)), .ow (U.map stD), z2, z3, .sh (.list (L1.map txD)), .sh (.list (L2.map txD)), .ow (hnd L1 L2), .sh (stD x), .ow (O1.map natD), .ow (O2.map natD), z10, z11, z12, z13, .ow (SB.map txD ++ [.str ""]), .ow (hnd SB SE)]) := by
    have v : pVar 6 [.sh (.list (ns.map .int)), .ow (U.map stD), z2, z3, .ow (L1.map txD), .ow (L2.map txD), .ow (hnd L1 L2), .sh (stD x), .ow (O1.map natD), .ow (O2.map natD), z10, z11, z12, z13, .ow (SB.map txD ++ [.str ""]), .ow (hnd SB SE)] = some (.al 6, _) := rfl
    have l : pLst (dCons (pVar 4) (dCons (pVar 5) dNil)) [.sh (.list (ns.map .int)), .ow (U.map stD), z2, z3, .ow (L1.map txD), .ow (L2.map txD), .ow (hnd L1 L2), .sh (stD x), .ow (O1.map natD), .ow (O2.map natD), z10, z11, z12, z13, .ow (SB.map txD ++ [.str ""]), .ow (hnd SB SE)] = some (.ow (hnd L1 L2), [.sh (.list (ns.map .int)), .ow (U.map stD), z2, z3, .sh (.list (L1.map txD)), .sh (.list (L2.map txD)), .ow (hnd L1 L2), .sh (stD x), .ow (O1.map natD), .ow (O2.map natD), z10, z11, z12, z13, .ow (SB.map txD ++ [.str ""]), .ow (hnd SB SE)]) := rfl
    have lk : look [.sh (.list (ns.map .int)), .ow (U.map stD), z2, z3, .sh (.list (L1.map txD)), .sh (.list (L2.map txD)), .ow (hnd L1 L2), .sh (stD x), .ow (O1.map natD), .ow (O2.map natD), z10, z11, z12, z13, .ow (SB.map txD ++ [.str ""]), .ow (hnd SB SE)] (.al 6) = some (.list (hnd L1 L2)) := rfl
    have lk2 : look [.sh (.list (ns.map .int)), .ow (U.map stD), z2, z3, .sh (.list (L1.map txD)), .sh (.list (L2.map txD)), .ow (hnd L1 L2), .sh (stD x), .ow (O1.map natD), .ow (O2.map natD), z10, z11, z12, z13, .ow (SB.map txD ++ [.str ""]), .ow (hnd SB SE)] (.ow (hnd L1 L2)) = some (.list (hnd L1 L2)) := rfl
    have d := dEq_tx2 az1 az2
    simp only [isB, pBin, v, l, Option.bind_some, Bool.false_and, Bool.false_eq_true, if_false, pNe, sc2, lk, lk2, d, Option.map_some, Bool.not_true]
  have tz1 := told_yes2 (L := SB) (g := pBin pIx false (pVar 15) (pC (.int 0))) (kb2 (.ow (SB.map txD ++ [.str ""])) (.sh (.list (L1.map txD))) (.sh (.list (L2.map txD)))) (ix_at (i := 15) (k := 0) rfl rfl) rfl rfl (by omega)
  have tz2 := told_yes2 (L := SE) (g := pBin pIx false (pVar 15) (pC (.int 1))) (ke2 (.ow (SB.map txD ++ [.str ""])) (.sh (.list (L1.map txD))) (.sh (.list (L2.map txD)))) (ix_at (i := 15) (k := 1) rfl rfl) rfl rfl (by omega)
  rw [g, g_law, seq_nx s1, seq_nx s2]
  have s3' : pSet 3 (pCall fn_law_least (aCons false (pCall fn_law_masks (aCons false (pVar 0) (aCons false (pC (.int 7)) (aCons false (pCaS dLen (aCons false (pVar 1) aNil)) (aCons false (pC (.int 8)) aNil))))) aNil)) ([.sh (.list (ns.map .int)), .ow (U.map stD), .no, .no, .no, .no, .no, .no, .no, .no, .no, .no, .no, .no, .no, .no].set 2 (.ow (D1.map natD))) = some ([.sh (.list (ns.map .int)), .ow (U.map stD), .ow (D1.map natD), .ow (D2.map natD), .no, .no, .no, .no, .no, .no, .no, .no, .no, .no, .no, .no], .nx) := s3
  rw [seq_nx s3', seq_nx s4, seq_nx s5, seq_nx s6, seq_nx s7, seq_nx (s8 .no), seq_nx s9, seq_nx s10, seq_nx s11, seq_nx s12, seq_nx (if_no (b := pNext) c13 rfl), seq_nx s14, seq_nx s15, seq_nx (if_no (b := pNext) c16 rfl)]
  have rr := tz1
  simp only [pRet, pAndV, tz1, Option.bind_some, look, Sl.val, dTru, tz2, if_true, Option.map_some]
  rfl
end Nhk42
namespace Nhk42
open PySem L2 Nh PL
theorem all_mk {l : PySem.W.OpenLaw} {w : World} {K : PySem.W.Frag} {h : Heap} {mg : Str → Option Value} {fa f1 f2 f3 f4 f5 f6 f7 f8 f9 f10 f11 f12 f13 f14 f15 f16 f17 f18 f19 f20 f21 f22 f23 : Addr} (X : K.In h) (G : h.Ns mainGlobals mg) (hfa : mg "law" = some (.ref fa))
    {od1 od2 od3 od4 od5 od6 od7 od8 od9 od10 od11 od12 od13 od14 od15 od16 od17 od18 od19 od20 od21 od22 od23 an1 an2 an3 an4 an5 an6 an7 an8 an9 an10 an11 an12 an13 an14 an15 an16 an17 an18 an19 an20 an21 an22 an23 : Option Addr} {sl1 sl2 sl3 sl4 sl5 sl6 sl7 sl8 sl9 sl10 sl11 sl12 sl13 sl14 sl15 sl16 sl17 sl18 sl19 sl20 sl21 sl22 sl23 : Array (Option Value)} {oc1 kV1 dc1 pm1 cd1 ct1 oc2 kV2 dc2 pm2 cd2 ct2 oc3 kV3 dc3 pm3 cd3 ct3 oc4 kV4 dc4 pm4 ct4 oc5 kV5 dc5 pm5 cd5 ct5 oc6 kV6 dc6 pm6 cd6 ct6 oc7 kV7 dc7 pm7 cd7 ct7 oc8 kV8 dc8 pm8 cd8 ct8 oc9 kV9 dc9 pm9 cd9 ct9 oc10 kV10 dc10 pm10 cd10 ct10 oc11 kV11 dc11 pm11 cd11 ct11 oc12 kV12 dc12 pm12 cd12 ct12 oc13 kV13 dc13 pm13 cd13 ct13 oc14 kV14 dc14 pm14 cd14 ct14 oc15 kV15 dc15 pm15 cd15 ct15 oc16 kV16 dc16 pm16 cd16 ct16 oc17 kV17 dc17 pm17 cd17 ct17 oc18 kV18 dc18 pm18 cd18 ct18 oc19 kV19 dc19 pm19 cd19 ct19 oc20 kV20 dc20 pm20 cd20 ct20 oc21 kV21 dc21 pm21 cd21 ct21 oc22 kV22 dc22 pm22 cd22 ct22 oc23 kV23 dc23 pm23 cd23 ct23 : Value}
    (a1 : PySem.W.nsIn K mainGlobals "is_nail" = some (some (.ref f1))) (l1 : K.lookup f1 = some ⟨oc1, od1, .func (PySem.W.fnOf "is_nail" "is_nail" (defArgs s_is_nail) (defBody s_is_nail) (defScope s_is_nail) .none kV1 dc1 pm1 an1 cd1 ct1), sl1⟩) (c1 : PySem.W.codeIn K cd1 "is_nail" = true) (k1 : PySem.W.keepIn K (.ref f1) = true)
    (a2 : PySem.W.nsIn K mainGlobals "set_of" = some (some (.ref f2))) (l2 : K.lookup f2 = some ⟨oc2, od2, .func (PySem.W.fnOf "set_of" "set_of" (defArgs s_set_of) (defBody s_set_of) (defScope s_set_of) .none kV2 dc2 pm2 an2 cd2 ct2), sl2⟩) (c2 : PySem.W.codeIn K cd2 "set_of" = true) (k2 : PySem.W.keepIn K (.ref f2) = true)
    (a3 : PySem.W.nsIn K mainGlobals "bits_of" = some (some (.ref f3))) (l3 : K.lookup f3 = some ⟨oc3, od3, .func (PySem.W.fnOf "bits_of" "bits_of" (defArgs s_bits_of) (defBody s_bits_of) (defScope s_bits_of) .none kV3 dc3 pm3 an3 cd3 ct3), sl3⟩) (c3 : PySem.W.codeIn K cd3 "bits_of" = true) (k3 : PySem.W.keepIn K (.ref f3) = true)
    {cT PT : Addr} {vsT : Array Value} {ocT : Value} {odT : Option Addr} {slT : Array (Option Value)} (a4 : PySem.W.nsIn K mainGlobals "in_told_order" = some (some (.ref f4))) (l4 : K.lookup f4 = some ⟨oc4, od4, .func (PySem.W.fnOf "in_told_order" "in_told_order" (defArgs s_in_told_order) (defBody s_in_told_order) (defScope s_in_told_order) .none kV4 dc4 pm4 an4 (.ref cT) ct4), sl4⟩) (c4 : PySem.W.codeIn K (.ref cT) "in_told_order" = true) (k4 : PySem.W.keepIn K (.ref f4) = true)
    (t1 : K.lookup cT = some ⟨ocT, odT, .fields vsT, slT⟩) (t2 : (vsT[11]? : Option Value) = some (.ref PT)) (t3 : PySem.W.codeHdIn K cT PT = true)
    (a5 : PySem.W.nsIn K mainGlobals "has_part_among" = some (some (.ref f5))) (l5 : K.lookup f5 = some ⟨oc5, od5, .func (PySem.W.fnOf "has_part_among" "has_part_among" (defArgs s_has_part_among) (defBody s_has_part_among) (defScope s_has_part_among) .none kV5 dc5 pm5 an5 cd5 ct5), sl5⟩) (c5 : PySem.W.codeIn K cd5 "has_part_among" = true) (k5 : PySem.W.keepIn K (.ref f5) = true)
    (a6 : PySem.W.nsIn K mainGlobals "least_of" = some (some (.ref f6))) (l6 : K.lookup f6 = some ⟨oc6, od6, .func (PySem.W.fnOf "least_of" "least_of" (defArgs s_least_of) (defBody s_least_of) (defScope s_least_of) .none kV6 dc6 pm6 an6 cd6 ct6), sl6⟩) (c6 : PySem.W.codeIn K cd6 "least_of" = true) (k6 : PySem.W.keepIn K (.ref f6) = true)
    (a7 : PySem.W.nsIn K mainGlobals "all_sets" = some (some (.ref f7))) (l7 : K.lookup f7 = some ⟨oc7, od7, .func (PySem.W.fnOf "all_sets" "all_sets" (defArgs s_all_sets) (defBody s_all_sets) (defScope s_all_sets) .none kV7 dc7 pm7 an7 cd7 ct7), sl7⟩) (c7 : PySem.W.codeIn K cd7 "all_sets" = true) (k7 : PySem.W.keepIn K (.ref f7) = true)
    (a8 : PySem.W.nsIn K mainGlobals "check_many" = some (some (.ref f8))) (l8 : K.lookup f8 = some ⟨oc8, od8, .func (PySem.W.fnOf "check_many" "check_many" (defArgs s_check_many) (defBody s_check_many) (defScope s_check_many) .none kV8 dc8 pm8 an8 cd8 ct8), sl8⟩) (c8 : PySem.W.codeIn K cd8 "check_many" = true) (k8 : PySem.W.keepIn K (.ref f8) = true)
    (a9 : PySem.W.nsIn K mainGlobals "nails_among" = some (some (.ref f9))) (l9 : K.lookup f9 = some ⟨oc9, od9, .func (PySem.W.fnOf "nails_among" "nails_among" (defArgs s_nails_among) (defBody s_nails_among) (defScope s_nails_among) .none kV9 dc9 pm9 an9 cd9 ct9), sl9⟩) (c9 : PySem.W.codeIn K cd9 "nails_among" = true) (k9 : PySem.W.keepIn K (.ref f9) = true)
    (a10 : PySem.W.nsIn K mainGlobals "breaks" = some (some (.ref f10))) (l10 : K.lookup f10 = some ⟨oc10, od10, .func (PySem.W.fnOf "breaks" "breaks" (defArgs s_breaks) (defBody s_breaks) (defScope s_breaks) .none kV10 dc10 pm10 an10 cd10 ct10), sl10⟩) (c10 : PySem.W.codeIn K cd10 "breaks" = true) (k10 : PySem.W.keepIn K (.ref f10) = true)
    (a11 : PySem.W.nsIn K mainGlobals "both_rules" = some (some (.ref f11))) (l11 : K.lookup f11 = some ⟨oc11, od11, .func (PySem.W.fnOf "both_rules" "both_rules" (defArgs s_both_rules) (defBody s_both_rules) (defScope s_both_rules) .none kV11 dc11 pm11 an11 cd11 ct11), sl11⟩) (c11 : PySem.W.codeIn K cd11 "both_rules" = true) (k11 : PySem.W.keepIn K (.ref f11) = true)
    (a12 : PySem.W.nsIn K mainGlobals "either_rule" = some (some (.ref f12))) (l12 : K.lookup f12 = some ⟨oc12, od12, .func (PySem.W.fnOf "either_rule" "either_rule" (defArgs s_either_rule) (defBody s_either_rule) (defScope s_either_rule) .none kV12 dc12 pm12 an12 cd12 ct12), sl12⟩) (c12 : PySem.W.codeIn K cd12 "either_rule" = true) (k12 : PySem.W.keepIn K (.ref f12) = true)
    (a13 : PySem.W.nsIn K mainGlobals "_law_at" = some (some (.ref f13))) (l13 : K.lookup f13 = some ⟨oc13, od13, .func (PySem.W.fnOf "_law_at" "_law_at" (defArgs s_law_at) (defBody s_law_at) (defScope s_law_at) .none kV13 dc13 pm13 an13 cd13 ct13), sl13⟩) (c13 : PySem.W.codeIn K cd13 "_law_at" = true) (k13 : PySem.W.keepIn K (.ref f13) = true)
    (a14 : PySem.W.nsIn K mainGlobals "_law_stir" = some (some (.ref f14))) (l14 : K.lookup f14 = some ⟨oc14, od14, .func (PySem.W.fnOf "_law_stir" "_law_stir" (defArgs s_law_stir) (defBody s_law_stir) (defScope s_law_stir) .none kV14 dc14 pm14 an14 cd14 ct14), sl14⟩) (c14 : PySem.W.codeIn K cd14 "_law_stir" = true) (k14 : PySem.W.keepIn K (.ref f14) = true)
    (a15 : PySem.W.nsIn K mainGlobals "_law_nails" = some (some (.ref f15))) (l15 : K.lookup f15 = some ⟨oc15, od15, .func (PySem.W.fnOf "_law_nails" "_law_nails" (defArgs s_law_nails) (defBody s_law_nails) (defScope s_law_nails) .none kV15 dc15 pm15 an15 cd15 ct15), sl15⟩) (c15 : PySem.W.codeIn K cd15 "_law_nails" = true) (k15 : PySem.W.keepIn K (.ref f15) = true)
    (a16 : PySem.W.nsIn K mainGlobals "_law_by_size" = some (some (.ref f16))) (l16 : K.lookup f16 = some ⟨oc16, od16, .func (PySem.W.fnOf "_law_by_size" "_law_by_size" (defArgs s_law_by_size) (defBody s_law_by_size) (defScope s_law_by_size) .none kV16 dc16 pm16 an16 cd16 ct16), sl16⟩) (c16 : PySem.W.codeIn K cd16 "_law_by_size" = true) (k16 : PySem.W.keepIn K (.ref f16) = true)
    (a17 : PySem.W.nsIn K mainGlobals "_law_set" = some (some (.ref f17))) (l17 : K.lookup f17 = some ⟨oc17, od17, .func (PySem.W.fnOf "_law_set" "_law_set" (defArgs s_law_set) (defBody s_law_set) (defScope s_law_set) .none kV17 dc17 pm17 an17 cd17 ct17), sl17⟩) (c17 : PySem.W.codeIn K cd17 "_law_set" = true) (k17 : PySem.W.keepIn K (.ref f17) = true)
    (a18 : PySem.W.nsIn K mainGlobals "_law_least" = some (some (.ref f18))) (l18 : K.lookup f18 = some ⟨oc18, od18, .func (PySem.W.fnOf "_law_least" "_law_least" (defArgs s_law_least) (defBody s_law_least) (defScope s_law_least) .none kV18 dc18 pm18 an18 cd18 ct18), sl18⟩) (c18 : PySem.W.codeIn K cd18 "_law_least" = true) (k18 : PySem.W.keepIn K (.ref f18) = true)
    (a19 : PySem.W.nsIn K mainGlobals "_law_texts" = some (some (.ref f19))) (l19 : K.lookup f19 = some ⟨oc19, od19, .func (PySem.W.fnOf "_law_texts" "_law_texts" (defArgs s_law_texts) (defBody s_law_texts) (defScope s_law_texts) .none kV19 dc19 pm19 an19 cd19 ct19), sl19⟩) (c19 : PySem.W.codeIn K cd19 "_law_texts" = true) (k19 : PySem.W.keepIn K (.ref f19) = true)
    (a20 : PySem.W.nsIn K mainGlobals "_law_masks" = some (some (.ref f20))) (l20 : K.lookup f20 = some ⟨oc20, od20, .func (PySem.W.fnOf "_law_masks" "_law_masks" (defArgs s_law_masks) (defBody s_law_masks) (defScope s_law_masks) .none kV20 dc20 pm20 an20 cd20 ct20), sl20⟩) (c20 : PySem.W.codeIn K cd20 "_law_masks" = true) (k20 : PySem.W.keepIn K (.ref f20) = true)
    (a21 : PySem.W.nsIn K mainGlobals "_law_breaks" = some (some (.ref f21))) (l21 : K.lookup f21 = some ⟨oc21, od21, .func (PySem.W.fnOf "_law_breaks" "_law_breaks" (defArgs s_law_breaks) (defBody s_law_breaks) (defScope s_law_breaks) .none kV21 dc21 pm21 an21 cd21 ct21), sl21⟩) (c21 : PySem.W.codeIn K cd21 "_law_breaks" = true) (k21 : PySem.W.keepIn K (.ref f21) = true)
    (a22 : PySem.W.nsIn K mainGlobals "_law_told" = some (some (.ref f22))) (l22 : K.lookup f22 = some ⟨oc22, od22, .func (PySem.W.fnOf "_law_told" "_law_told" (defArgs s_law_told) (defBody s_law_told) (defScope s_law_told) .none kV22 dc22 pm22 an22 cd22 ct22), sl22⟩) (c22 : PySem.W.codeIn K cd22 "_law_told" = true) (k22 : PySem.W.keepIn K (.ref f22) = true)
    (a23 : PySem.W.nsIn K mainGlobals "law" = some (some (.ref f23))) (l23 : K.lookup f23 = some ⟨oc23, od23, .func (PySem.W.fnOf "law" "law" (defArgs s_law) (defBody s_law) (defScope s_law) .none kV23 dc23 pm23 an23 cd23 ct23), sl23⟩) (c23 : PySem.W.codeIn K cd23 "law" = true) (k23 : PySem.W.keepIn K (.ref f23) = true)
    {t_LETTERS : Tok} (g_LETTERS : PySem.W.nsIn K mainGlobals "LETTERS" = some (some (.str "abcdefghijklmnopqrstuvwxyz" t_LETTERS)))
    {t_MOST_NAILS : Tok} (g_MOST_NAILS : PySem.W.nsIn K mainGlobals "MOST_NAILS" = some (some (.int 10 t_MOST_NAILS)))
    (z1 : PySem.W.nsIn K mainGlobals "len" = some none)
    (z2 : PySem.W.nsIn K mainGlobals "range" = some none)
    (z3 : PySem.W.nsIn K mainGlobals "abs" = some none)
    (z4 : PySem.W.nsIn K mainGlobals "min" = some none)
    (z5 : PySem.W.nsIn K mainGlobals "max" = some none)
    (z6 : PySem.W.nsIn K mainGlobals "reversed" = some none)
    (z7 : PySem.W.nsIn K mainGlobals "enumerate" = some none)
    (z8 : PySem.W.nsIn K mainGlobals "isinstance" = some none)
    (z9 : PySem.W.nsIn K mainGlobals "list" = some none)
    (z10 : PySem.W.nsIn K mainGlobals "tuple" = some none)
    (z11 : PySem.W.nsIn K mainGlobals "str" = some none)
    (z12 : PySem.W.nsIn K mainGlobals "int" = some none)
    (z13 : PySem.W.nsIn K mainGlobals "bool" = some none)
    (z14 : PySem.W.nsIn K mainGlobals "sorted" = some none)
    (z15 : PySem.W.nsIn K mainGlobals "zip" = some none)
    (z16 : PySem.W.nsIn K mainGlobals "sum" = some none)
    (z17 : PySem.W.nsIn K mainGlobals "any" = some none)
    (z18 : PySem.W.nsIn K mainGlobals "all" = some none)
    (z19 : PySem.W.nsIn K mainGlobals "set" = some none)
    (z20 : PySem.W.nsIn K mainGlobals "dict" = some none) :
    ∃ fd : FuncData, (∀ (s : Shared) (v : Value), BindsTo s fd ⟨[v], []⟩ [("_law_script", v)]) ∧ ∀ base : Heap, K.In base → base.Ns mainGlobals mg → FnOk l.prog w K mg base CX0 5 fa fd ["_law_script"] (spP K fn_law) := by
  have e := hfa.symm.trans (PySem.W.mg_of X G a23)
  cases e
  have F0 := fun_mk (st := s_law) l23 c23 k23
  have B : Bn mg := bn_mk X G z1 z2 z3 z4 z5 z6 z7 z8 z9 z10 z11 z12 z13 z14 z15 z16 z17 z18 z19 z20
  have G_LETTERS := PySem.W.mg_of X G g_LETTERS
  have G_MOST_NAILS := PySem.W.mg_of X G g_MOST_NAILS
  have e_is_nail : Def K mg "is_nail" s_is_nail ["thing"] := def_mk X G a1 l1 c1 k1 fun _ _ _ _ _ _ us hl => match us, hl with | [_], _ => rfl
  have e_set_of : Def K mg "set_of" s_set_of ["nails"] := def_mk X G a2 l2 c2 k2 fun _ _ _ _ _ _ us hl => match us, hl with | [_], _ => rfl
  have e_bits_of : Def K mg "bits_of" s_bits_of ["nails"] := def_mk X G a3 l3 c3 k3 fun _ _ _ _ _ _ us hl => match us, hl with | [_], _ => rfl
  have e_in_told_order : DefT K mg "in_told_order" s_in_told_order ["sets"] cT PT := ⟨⟨f4, _, _, _, _, _, _, _, _, l4, c4, k4, PySem.W.mg_of X G a4, .all fun us hl => match us, hl with | [_], _ => rfl⟩, t3, tab_mk a4 l4 rfl t1 t2⟩
  have e_has_part_among : Def K mg "has_part_among" s_has_part_among ["bits", "parts"] := def_mk X G a5 l5 c5 k5 fun _ _ _ _ _ _ us hl => match us, hl with | [_, _], _ => rfl
  have e_least_of : Def K mg "least_of" s_least_of ["sets"] := def_mk X G a6 l6 c6 k6 fun _ _ _ _ _ _ us hl => match us, hl with | [_], _ => rfl
  have e_all_sets : Def K mg "all_sets" s_all_sets ["nails"] := def_mk X G a7 l7 c7 k7 fun _ _ _ _ _ _ us hl => match us, hl with | [_], _ => rfl
  have e_check_many : Def K mg "check_many" s_check_many ["nails"] := def_mk X G a8 l8 c8 k8 fun _ _ _ _ _ _ us hl => match us, hl with | [_], _ => rfl
  have e_nails_among : Def K mg "nails_among" s_nails_among ["sets"] := def_mk X G a9 l9 c9 k9 fun _ _ _ _ _ _ us hl => match us, hl with | [_], _ => rfl
  have e_breaks : Def K mg "breaks" s_breaks ["rule", "nails"] := def_mk X G a10 l10 c10 k10 fun _ _ _ _ _ _ us hl => match us, hl with | [_, _], _ => rfl
  have e_both_rules : Def K mg "both_rules" s_both_rules ["rule", "second"] := def_mk X G a11 l11 c11 k11 fun _ _ _ _ _ _ us hl => match us, hl with | [_, _], _ => rfl
  have e_either_rule : Def K mg "either_rule" s_either_rule ["rule", "second"] := def_mk X G a12 l12 c12 k12 fun _ _ _ _ _ _ us hl => match us, hl with | [_, _], _ => rfl
  have e_law_at : Def K mg "_law_at" s_law_at ["_law_script", "_law_k"] := def_mk X G a13 l13 c13 k13 fun _ _ _ _ _ _ us hl => match us, hl with | [_, _], _ => rfl
  have e_law_stir : Def K mg "_law_stir" s_law_stir ["_law_cell", "_law_k"] := def_mk X G a14 l14 c14 k14 fun _ _ _ _ _ _ us hl => match us, hl with | [_, _], _ => rfl
  have e_law_nails : Def K mg "_law_nails" s_law_nails ["_law_cell", "_law_many"] := def_mk X G a15 l15 c15 k15 fun _ _ _ _ _ _ us hl => match us, hl with | [_, _], _ => rfl
  have e_law_by_size : Def K mg "_law_by_size" s_law_by_size ["_law_one"] := def_mk X G a16 l16 c16 k16 fun _ _ _ _ _ _ us hl => match us, hl with | [_], _ => rfl
  have e_law_set : Def K mg "_law_set" s_law_set ["_law_mask", "_law_some"] := def_mk X G a17 l17 c17 k17 fun _ _ _ _ _ _ us hl => match us, hl with | [_, _], _ => rfl
  have e_law_least : Def K mg "_law_least" s_law_least ["_law_masks_here"] := def_mk X G a18 l18 c18 k18 fun _ _ _ _ _ _ us hl => match us, hl with | [_], _ => rfl
  have e_law_texts : Def K mg "_law_texts" s_law_texts ["_law_masks_here", "_law_some"] := def_mk X G a19 l19 c19 k19 fun _ _ _ _ _ _ us hl => match us, hl with | [_, _], _ => rfl
  have e_law_masks : Def K mg "_law_masks" s_law_masks ["_law_script", "_law_first", "_law_many", "_law_most"] := def_mk X G a20 l20 c20 k20 fun _ _ _ _ _ _ us hl => match us, hl with | [_, _, _, _], _ => rfl
  have e_law_breaks : Def K mg "_law_breaks" s_law_breaks ["_law_masks_here", "_law_out"] := def_mk X G a21 l21 c21 k21 fun _ _ _ _ _ _ us hl => match us, hl with | [_, _], _ => rfl
  have e_law_told : Def K mg "_law_told" s_law_told ["_law_found", "_law_due"] := def_mk X G a22 l22 c22 k22 fun _ _ _ _ _ _ us hl => match us, hl with | [_, _], _ => rfl
  refine ⟨PySem.W.fnOf "law" "law" (defArgs s_law) (defBody s_law) (defScope s_law) .none kV23 dc23 pm23 an23 cd23 ct23, fun s v => .of_eq rfl, fun base _ _ => ?_⟩
  have D_is_nail := ok_is_nail (P := l.prog) (w := w) (base := base) e_is_nail B 
  have D_set_of := ok_set_of (P := l.prog) (w := w) (base := base) e_set_of B D_is_nail
  have D_bits_of := ok_bits_of (P := l.prog) (w := w) (base := base) e_bits_of B G_LETTERS
  have D_in_told_order := ok_in_told_order (P := l.prog) (w := w) (base := base) e_in_told_order B 
  have D_has_part_among := ok_has_part_among (P := l.prog) (w := w) (base := base) e_has_part_among B 
  have D_least_of := ok_least_of (P := l.prog) (w := w) (base := base) e_least_of B D_in_told_order D_bits_of D_has_part_among
  have D_all_sets := ok_all_sets (P := l.prog) (w := w) (base := base) e_all_sets B 
  have D_check_many := ok_check_many (P := l.prog) (w := w) (base := base) e_check_many B G_MOST_NAILS
  have D_nails_among := ok_nails_among (P := l.prog) (w := w) (base := base) e_nails_among B D_set_of
  have D_breaks := ok_breaks (P := l.prog) (w := w) (base := base) e_breaks B D_bits_of D_set_of D_has_part_among
  have D_both_rules := ok_both_rules (P := l.prog) (w := w) (base := base) e_both_rules B D_nails_among D_check_many D_bits_of D_all_sets D_has_part_among D_least_of
  have D_either_rule := ok_either_rule (P := l.prog) (w := w) (base := base) e_either_rule B D_nails_among D_check_many D_least_of
  have D_law_at := ok_law_at (P := l.prog) (w := w) (base := base) e_law_at B 
  have D_law_stir := ok_law_stir (P := l.prog) (w := w) (base := base) e_law_stir B 
  have D_law_nails := ok_law_nails (P := l.prog) (w := w) (base := base) e_law_nails B 
  have D_law_by_size := ok_law_by_size (P := l.prog) (w := w) (base := base) e_law_by_size B 
  have D_law_set := ok_law_set (P := l.prog) (w := w) (base := base) e_law_set B 
  have D_law_least := ok_law_least (P := l.prog) (w := w) (base := base) e_law_least B 
  have D_law_texts := ok_law_texts (P := l.prog) (w := w) (base := base) e_law_texts B D_law_set e_law_by_size
  have D_law_masks := ok_law_masks (P := l.prog) (w := w) (base := base) e_law_masks B D_law_at D_law_stir
  have D_law_breaks := ok_law_breaks (P := l.prog) (w := w) (base := base) e_law_breaks B 
  have D_law_told := ok_law_told (P := l.prog) (w := w) (base := base) e_law_told B 
  exact ok_law F0 B D_law_at D_law_nails D_law_masks D_law_least D_law_texts D_law_set D_breaks D_law_breaks D_both_rules D_law_told D_either_rule
theorem walk {l : PySem.W.OpenLaw} {q : Program} {loose : List Str} {XP : (Str → Option Value) → Heap → Prop} {YP : World → Heap → Prop} {d : DefRec} {K : Params → PySem.W.Frag} (hn : l.most = some 63) (hdf : d.params.defaults = [])
    (hY : ∀ (w : World) (h : Heap), YP w h → (K w.params).In h ∧ TabAt (K w.params) h)
    (F : ∀ (w : World) (mg : Str → Option Value) (fa : Addr) (h : Heap), (K w.params).In h → h.Ns mainGlobals mg → mg d.name = some (.ref fa) →
      ∃ fd : FuncData, (∀ (s : Shared) (u : Value), BindsTo s fd ⟨[u], []⟩ [("_law_script", u)]) ∧ ∀ base : Heap, (K w.params).In base → base.Ns mainGlobals mg → FnOk l.prog w (K w.params) mg base CX0 5 fa fd ["_law_script"] (spP (K w.params) fn_law)) :
    PySem.W.WalkO q loose XP YP l.row.toRowW d [] (fun f vs => PySem.call f vs) :=
  L2.walk_tab (n := 63) (k := 5) (x := "_law_script") (CX := fun _ => CX0) (sp := fun w => spP (K w.params) fn_law) hn (by decide) hdf ⟨rfl, by decide, by decide⟩ hY F (fun _ _ a ns hl hS => law_sp (pv_law ns hl) hS) fun _ _ _ _ _ z => z
end Nhk42
open PySem PySem.W PyProof.Rows
set_option maxRecDepth 100000 in
set_option maxHeartbeats 0 in
theorem PySem.Challenge.cw_nailhang_k42_both_and_either_holds : PySem.Challenge.rw_nailhang_k42_both_and_either.Holds := by
  w_on; o_law; k_head; (case hw => w_witness2)
  k_fill
  refine Nhk42.walk (l := PySem.Challenge.rw_nailhang_k42_both_and_either) rfl rfl (fun w h Y => ⟨PySem.W.km_in_of Y, by
    refine' PL.tabAt_mk (PySem.W.km_in_of Y) ?y1 ?y2 ?y3 ?y4 ?y5 ?y6 ?y7 (PySem.W.km_tabs_of Y _ ?y8)
    (case y1 => k_is)
    (case y2 => k_is)
    (case y3 => exact rfl)
    (case y4 => k_is)
    (case y5 => exact rfl)
    (case y6 => kernel_rfl)
    (case y7 => kernel_rfl)
    (case y8 => k_mem)⟩) ?F
  case F =>
    intro w mg fa h KX G hmg
    refine' Nhk42.all_mk KX G hmg ?a1 ?l1 ?c1 ?k1 ?a2 ?l2 ?c2 ?k2 ?a3 ?l3 ?c3 ?k3 ?a4 ?l4 ?c4 ?k4 ?t1 ?t2 ?t3 ?a5 ?l5 ?c5 ?k5 ?a6 ?l6 ?c6 ?k6 ?a7 ?l7 ?c7 ?k7 ?a8 ?l8 ?c8 ?k8 ?a9 ?l9 ?c9 ?k9 ?a10 ?l10 ?c10 ?k10 ?a11 ?l11 ?c11 ?k11 ?a12 ?l12 ?c12 ?k12 ?a13 ?l13 ?c13 ?k13 ?a14 ?l14 ?c14 ?k14 ?a15 ?l15 ?c15 ?k15 ?a16 ?l16 ?c16 ?k16 ?a17 ?l17 ?c17 ?k17 ?a18 ?l18 ?c18 ?k18 ?a19 ?l19 ?c19 ?k19 ?a20 ?l20 ?c20 ?k20 ?a21 ?l21 ?c21 ?k21 ?a22 ?l22 ?c22 ?k22 ?a23 ?l23 ?c23 ?k23 ?g_LETTERS ?g_MOST_NAILS ?z1 ?z2 ?z3 ?z4 ?z5 ?z6 ?z7 ?z8 ?z9 ?z10 ?z11 ?z12 ?z13 ?z14 ?z15 ?z16 ?z17 ?z18 ?z19 ?z20
    (case a1 => k_is)
    (case l1 => k_is)
    (case c1 => k_is)
    (case k1 => k_is)
    (case a2 => k_is)
    (case l2 => k_is)
    (case c2 => k_is)
    (case k2 => k_is)
    (case a3 => k_is)
    (case l3 => k_is)
    (case c3 => k_is)
    (case k3 => k_is)
    (case a4 => k_is)
    (case l4 => k_is)
    (case c4 => k_is)
    (case k4 => k_is)
    (case t1 => k_is)
    (case t2 => exact rfl)
    (case t3 => kernel_rfl)
    (case a5 => k_is)
    (case l5 => k_is)
    (case c5 => k_is)
    (case k5 => k_is)
    (case a6 => k_is)
    (case l6 => k_is)
    (case c6 => k_is)
    (case k6 => k_is)
    (case a7 => k_is)
    (case l7 => k_is)
    (case c7 => k_is)
    (case k7 => k_is)
    (case a8 => k_is)
    (case l8 => k_is)
    (case c8 => k_is)
    (case k8 => k_is)
    (case a9 => k_is)
    (case l9 => k_is)
    (case c9 => k_is)
    (case k9 => k_is)
    (case a10 => k_is)
    (case l10 => k_is)
    (case c10 => k_is)
    (case k10 => k_is)
    (case a11 => k_is)
    (case l11 => k_is)
    (case c11 => k_is)
    (case k11 => k_is)
    (case a12 => k_is)
    (case l12 => k_is)
    (case c12 => k_is)
    (case k12 => k_is)
    (case a13 => k_is)
    (case l13 => k_is)
    (case c13 => k_is)
    (case k13 => k_is)
    (case a14 => k_is)
    (case l14 => k_is)
    (case c14 => k_is)
    (case k14 => k_is)
    (case a15 => k_is)
    (case l15 => k_is)
    (case c15 => k_is)
    (case k15 => k_is)
    (case a16 => k_is)
    (case l16 => k_is)
    (case c16 => k_is)
    (case k16 => k_is)
    (case a17 => k_is)
    (case l17 => k_is)
    (case c17 => k_is)
    (case k17 => k_is)
    (case a18 => k_is)
    (case l18 => k_is)
    (case c18 => k_is)
    (case k18 => k_is)
    (case a19 => k_is)
    (case l19 => k_is)
    (case c19 => k_is)
    (case k19 => k_is)
    (case a20 => k_is)
    (case l20 => k_is)
    (case c20 => k_is)
    (case k20 => k_is)
    (case a21 => k_is)
    (case l21 => k_is)
    (case c21 => k_is)
    (case k21 => k_is)
    (case a22 => k_is)
    (case l22 => k_is)
    (case c22 => k_is)
    (case k22 => k_is)
    (case a23 => k_is)
    (case l23 => k_is)
    (case c23 => k_is)
    (case k23 => k_is)
    (case g_LETTERS => k_is)
    (case g_MOST_NAILS => k_is)
    (case z1 => k_is)
    (case z2 => k_is)
    (case z3 => k_is)
    (case z4 => k_is)
    (case z5 => k_is)
    (case z6 => k_is)
    (case z7 => k_is)
    (case z8 => k_is)
    (case z9 => k_is)
    (case z10 => k_is)
    (case z11 => k_is)
    (case z12 => k_is)
    (case z13 => k_is)
    (case z14 => k_is)
    (case z15 => k_is)
    (case z16 => k_is)
    (case z17 => k_is)
    (case z18 => k_is)
    (case z19 => k_is)
    (case z20 => k_is)
