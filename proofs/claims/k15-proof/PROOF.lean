import PyProof.Rows.All
import Wide.All
import OpenK.AllK
import Wide.FinOn
import Lean
import PyProof.EqAt
import PyProof.EqKinds
import PyProof.TupleCall
import KE.KRevIter
import PyProof.Rows.SeqMore
import PyProof.Rows.ListMulArg
import PyProof.ZipIter
import PyProof.Rows.ZipGen
import PyProof.EnumMake
import PyProof.StrWalks
import PyProof.SliceStr2
import PyProof.StrBlockH
import PyProof.FString5
import PyProof.Rows.StrJoin2
import PyProof.Rows.Range3
import KE.KDictLaws
import PyProof.ConsumeWalk
import PyProof.SumWalkG
import PyProof.Rows.SeqCalls
import PyProof.Rows.SeqGen
import PyProof.Rows.MinMaxN
import PyProof.Rows.CallKwBuiltin
import PyProof.Rows.SortStr
import PyProof.StrOps2
import PyProof.Rows.StrMul
import PyProof.IsRules
import PyProof.Rows.SetFrom
import PyProof.CollectStr
import PyProof.StrLawsNeg
import PySem.Challenge.RW_nailhang_k15_told_apart
set_option Elab.async false
set_option linter.all false
set_option maxRecDepth 100000
set_option maxHeartbeats 4000000
namespace L2
open PySem PySem.Spec PyProof.Rows
noncomputable abbrev Key := Sum Int Str
noncomputable def keyIs : Key → Value → Bool
  | .inl k, v => Value.isInt k v
  | .inr x, v => Value.isStrOf x v
noncomputable def keyH (w : World) : Key → Int
  | .inl k => hashInt k
  | .inr x => hashStr w x
theorem keyIs_shape : ∀ {k : Key} {v : Value}, keyIs k v = true → (∃ i t, k = Sum.inl i ∧ v = Value.int i t) ∨ (∃ x t, k = Sum.inr x ∧ v = Value.str x t)
  | .inl i, v, h => by
    obtain ⟨t, e⟩ := Value.isInt_shape (k := i) (v := v) h
    exact .inl ⟨i, t, rfl, e⟩
  | .inr x, v, h => by
    obtain ⟨t, e⟩ := Value.isStrOf_shape (x := x) (v := v) h
    exact .inr ⟨x, t, rfl, e⟩
theorem keyIs_int (i : Int) (t : Tok) : keyIs (.inl i) (.int i t) = true := by simp [keyIs, Value.isInt]
theorem keyIs_str (x : Str) (t : Tok) : keyIs (.inr x) (.str x t) = true := by simp [keyIs, Value.isStrOf]
theorem key_ll (a b : Int) : decide ((Sum.inl a : Key) = Sum.inl b) = (a == b) := by
  by_cases e : a = b
  · subst e; simp
  · have h : ¬ (Sum.inl a : Key) = Sum.inl b := fun q => e (Sum.inl.inj q)
    rw [decide_eq_false h]
    exact (beq_eq_false_iff_ne.mpr e).symm
theorem key_rr (a b : Str) : decide ((Sum.inr a : Key) = Sum.inr b) = decide (a = b) := by
  by_cases e : a = b
  · subst e; simp
  · have h : ¬ (Sum.inr a : Key) = Sum.inr b := fun q => e (Sum.inr.inj q)
    rw [decide_eq_false h, decide_eq_false e]
theorem key_lr (a : Int) (b : Str) : decide ((Sum.inl a : Key) = Sum.inr b) = false := decide_eq_false (fun q => nomatch q)
theorem key_rl (a : Str) (b : Int) : decide ((Sum.inr a : Key) = Sum.inl b) = false := decide_eq_false (fun q => nomatch q)
noncomputable def mixKind (prog : Program) (w : World) : PySem.KeyKind prog w Key where
  is := keyIs
  hash := keyH w
  inj := fun v a b ha hb => by
    rcases keyIs_shape ha with ⟨i, t, rfl, rfl⟩ | ⟨x, t, rfl, rfl⟩
    · rcases keyIs_shape hb with ⟨j, u, rfl, e⟩ | ⟨y, u, rfl, e⟩
      · injection e with e1 _; rw [e1]
      · exact nomatch e
    · rcases keyIs_shape hb with ⟨j, u, rfl, e⟩ | ⟨y, u, rfl, e⟩
      · exact nomatch e
      · injection e with e1 _; rw [e1]
  byValue := fun k v h => by
    rcases keyIs_shape h with ⟨i, t, rfl, rfl⟩ | ⟨x, t, rfl, rfl⟩ <;> rfl
  pyHash := fun hv h => by
    rcases keyIs_shape hv with ⟨i, t, rfl, rfl⟩ | ⟨x, t, rfl, rfl⟩
    · exact wpAny_pyHash_int h
    · exact wpAny_pyHash_str h
  eqBool := fun hu hv h => by
    rcases keyIs_shape hu with ⟨i, t, rfl, rfl⟩ | ⟨x, t, rfl, rfl⟩
    · rcases keyIs_shape hv with ⟨j, u, rfl, rfl⟩ | ⟨y, u, rfl, rfl⟩
      · rw [key_ll] at h; exact wpAny_eqBool_int h
      · rw [key_lr] at h; exact SeqAt.EqAt.int_str i t y u _ _ _ _ h
    · rcases keyIs_shape hv with ⟨j, u, rfl, rfl⟩ | ⟨y, u, rfl, rfl⟩
      · rw [key_rl] at h; exact SeqAt.EqAt.str_int x t j u _ _ _ _ h
      · rw [key_rr] at h; exact wpAny_eqBool_str h
  «strs» := fun k x t v h => by
    rcases keyIs_shape h with ⟨i, u, rfl, e⟩ | ⟨y, u, rfl, e⟩
    · exact nomatch e
    · injection e with e1 _
      subst e1
      cases v <;> rfl
theorem mixKind_int (prog : Program) (w : World) (i : Int) (t : Tok) : (mixKind prog w).is (.inl i) (.int i t) = true := keyIs_int i t
theorem mixKind_str (prog : Program) (w : World) (x : Str) (t : Tok) : (mixKind prog w).is (.inr x) (.str x t) = true := keyIs_str x t
end L2
namespace L2
open PySem PySem.Spec PyProof.Rows
inductive V where
  | non | bl (b : Bool) | int (i : Int) | str (x : Str) | byt (b : Array UInt8) | flt (b : UInt64) | ref (a : Addr) | ty (n : String)
  deriving DecidableEq
noncomputable def RelV : V → Value → Prop
  | .non, u => u = Value.none
  | .bl b, u => u = Value.bool b
  | .int i, u => ∃ t, u = Value.int i t
  | .str x, u => ∃ t, u = Value.str x t
  | .byt b, u => ∃ t, u = Value.bytes b t
  | .flt b, u => ∃ t, u = Value.float b t
  | .ref a, u => u = Value.ref a
  | .ty n, u => u = Value.type n
noncomputable abbrev Vals : List V → List Value → Prop := Paired RelV
theorem Vals.length {xs : List V} {us : List Value} (r : Vals xs us) : xs.length = us.length := Paired.length r
theorem Vals.get : ∀ {xs : List V} {us : List Value} {i : Nat} {x : V}, Vals xs us → xs[i]? = some x → ∃ u, us[i]? = some u ∧ RelV x u
  | _, _, _, _, .nil, e => by simp at e
  | _, _, 0, _, .cons r _, e => by simp at e; subst e; exact ⟨_, rfl, r⟩
  | _, _, i + 1, x, .cons _ t, e => by
    obtain ⟨u, h1, h2⟩ := Vals.get (i := i) (x := x) t (by simpa using e)
    exact ⟨u, by simpa using h1, h2⟩
theorem Vals.set {x : V} {u : Value} (r : RelV x u) : ∀ {xs : List V} {us : List Value} (i : Nat), Vals xs us → Vals (xs.set i x) (us.set i u)
  | _, _, _, .nil => .nil
  | _, _, 0, .cons _ t => .cons r t
  | _, _, i + 1, .cons q t => .cons q (Vals.set r i t)
theorem Vals.append : ∀ {xs ys : List V} {us ws : List Value}, Vals xs us → Vals ys ws → Vals (xs ++ ys) (us ++ ws)
  | _, _, _, _, .nil, s => s
  | _, _, _, _, .cons r t, s => .cons r (Vals.append t s)
theorem Vals.take : ∀ {xs : List V} {us : List Value} (n : Nat), Vals xs us → Vals (xs.take n) (us.take n)
  | _, _, 0, _ => .nil
  | _, _, _ + 1, .nil => .nil
  | _, _, n + 1, .cons r t => .cons r (Vals.take n t)
theorem Vals.drop : ∀ {xs : List V} {us : List Value} (n : Nat), Vals xs us → Vals (xs.drop n) (us.drop n)
  | _, _, 0, r => r
  | _, _, _ + 1, .nil => .nil
  | _, _, n + 1, .cons _ t => Vals.drop n t
noncomputable def RelO : Option V → Option Value → Prop
  | some v, some u => RelV v u
  | none, none => True
  | _, _ => False
noncomputable def KV {κ : Type} : List (κ × V) → List (κ × Value) → Prop := Paired fun (p : κ × V) (q : κ × Value) => p.1 = q.1 ∧ RelV p.2 q.2
noncomputable def kV : Key → V
  | .inl i => .int i
  | .inr x => .str x
inductive HO where
  /-- a list -/
  | lst (xs : List V)
  /-- a tuple (never changes) -/
  | tup (xs : List V)
  /-- a dict whose keys are ints and texts; one whose keys are tuples of ints and texts (the empty one is both) -/
  | dK (kvs : List (Key × V)) | dT (kvs : List (List Key × V))
  /-- a set of ints: its members, its size -/
  | set (S : Int → Bool) (n : Nat)
  /-- an instance of the class at C, its dict at dx, its attributes -/
  | ins (C dx : Addr) (fs : List (Str × V))
  /-- the dict of the instance at x -/
  | own (x : Addr)
  /-- the dict of an exception -/
  | xd (fs : List (Str × V))
  /-- a bound method, f of x -/
  | met (f x : Addr)
  /-- a range object lo, lo + 1, .. below hi -/
  | rng (lo hi : Int)
  /-- a thing that is known to the object (the script; a dict while a loop walks it): read, never written while it is so -/
  | frz (o : Obj) (u : HO)
  /-- a code object's table -/
  | tbl (ps : Array Value)
  /-- any other thing, by what is true of its one object (a def of one's own: SetO a S n := HO.ext fun h => ..) -/
  | ext (φ : Heap → Prop)
noncomputable abbrev Hp := Addr → Option HO
noncomputable def upd (H : Hp) (a : Addr) (o : HO) : Hp := fun b => if b = a then some o else H b
theorem upd_same {H : Hp} {a : Addr} {o : HO} : upd H a o a = some o := by unfold upd; rw [if_pos rfl]
theorem upd_ne {H : Hp} {a b : Addr} {o : HO} (h : b ≠ a) : upd H a o b = H b := by unfold upd; rw [if_neg h]
theorem upd_upd {H : Hp} {a : Addr} {o u : HO} : upd (upd H a o) a u = upd H a u := by
  funext b; unfold upd; split <;> rfl
theorem ne_of {H : Hp} {a b : Addr} {o u : HO} (h : H a = some o) (h' : H b = some u) (d : o ≠ u) : a ≠ b := by
  intro e; subst e; rw [h] at h'; exact d (Option.some.inj h')
theorem ne_of_none {H : Hp} {a b : Addr} {o : HO} (h : H a = some o) (h' : H b = none) : a ≠ b := by
  intro e; subst e; rw [h] at h'; cases h'
section
variable (P : Program) (w : World)
noncomputable def ObjOk (H : Hp) (h : Heap) (a : Addr) : HO → Prop
  | .lst xs => xs.length ≤ sizeLine ∧ ∃ (its : List Value) (n : Nat), Vals xs its ∧ h.get? a = some { cls := .type "list", data := .seq its.toArray n }
  | .tup xs => xs.length ≤ sizeLine ∧ ∃ its : List Value, Vals xs its ∧ IsTup h a its.toArray
  | .dK kvs => kvs.length ≤ sizeLine ∧ (a == sysModules) = false ∧ ∃ vs, KV kvs vs ∧ h.DictOf (mixKind P w) a vs
  | .dT kvs => kvs.length ≤ sizeLine ∧ (a == sysModules) = false ∧ ∃ xs : List (List Key × Addr × Value),
      Paired (fun (p : List Key × V) (q : List Key × Addr × Value) => p.1 = q.1 ∧ H q.2.1 = some (.tup (p.1.map kV)) ∧ RelV p.2 q.2.2) kvs xs ∧
      ∃ o es ep, h.get? a = some o ∧ o.ExactDict ∧ o.data = .dict es ep ∧ es.toList = xs.map (entryOfKey (tupleKind (mixKind P w))) ∧ (xs.map (·.1)).Nodup
  | .set S n => h.SetOf (intKind P w) a S n
  | .ins C dx fs => H dx = some (.own a) ∧ fs.length ≤ 1000 ∧ dx ≠ a ∧ h.get? a = some (PySem.W.instObj C dx) ∧
      ∃ mA, h.Ns1 dx mA ∧ (∀ f, RelO (fs.lookup f) (mA f)) ∧ PySem.Within mA (fs.map (·.1))
  | .own _ => ∃ o, h.get? a = some o
  | .xd fs => ∃ mA, h.Ns1 a mA ∧ ∀ f, RelO (fs.lookup f) (mA f)
  | .rng lo hi => ∃ t u v, h.get? a = some { cls := .type "range", data := .fields #[.int lo t, .int hi u, .int 1 v] }
  | .frz o u => h.get? a = some o ∧ ObjOk H h a u
  | .tbl ps => h.get? a = some { cls := .none, data := .fields ps }
  | .met f x => h.get? a = some (PySem.W.methodObj (.ref f) (.ref x))
  | .ext φ => φ h ∧ (∃ o, h.get? a = some o) ∧ ∀ h1 h2 : Heap, φ h1 → (∀ o, h1.get? a = some o → h2.get? a = some o) → φ h2
noncomputable def HOk (H : Hp) (h : Heap) : Prop := ∀ a o, H a = some o → ObjOk P w H h a o
end
section
variable {P : Program} {w : World} {H H' : Hp} {h h' : Heap} {a : Addr} {o : HO}
theorem ObjOk.lt (x : ObjOk P w H h a o) : a < h.objs.size := by
  cases o with
  | lst xs => obtain ⟨_, _, _, _, e⟩ := x; exact Heap.lt_size e
  | tup xs => obtain ⟨_, _, _, p⟩ := x; exact p.lt
  | dK kvs => obtain ⟨_, _, _, _, o, _, _, e, _⟩ := x; exact Heap.lt_size e
  | dT kvs => obtain ⟨_, _, _, _, o, _, _, e, _⟩ := x; exact Heap.lt_size e
  | set S n => obtain ⟨o, _, _, _, e, _⟩ := x; exact Heap.lt_size e
  | ins C dx fs => obtain ⟨_, _, _, e, _⟩ := x; exact Heap.lt_size e
  | own y => obtain ⟨_, e⟩ := x; exact Heap.lt_size e
  | xd fs => obtain ⟨_, ⟨_, _, _, e, _⟩, _⟩ := x; exact Heap.lt_size e
  | rng lo hi => obtain ⟨_, _, _, e⟩ := x; exact Heap.lt_size e
  | frz ob u => obtain ⟨e, _⟩ := x; exact Heap.lt_size e
  | tbl ps => exact Heap.lt_size (show h.get? a = some _ from x)
  | met f y => exact Heap.lt_size (show h.get? a = some _ from x)
  | ext φ => obtain ⟨_, ⟨_, e⟩, _⟩ := x; exact Heap.lt_size e
theorem Paired.mapP {α β : Type} {F G : α → β → Prop} : ∀ {l₁ : List α} {l₂ : List β}, Paired F l₁ l₂ → (∀ a b, F a b → G a b) → Paired G l₁ l₂
  | _, _, .nil, _ => .nil
  | _, _, .cons r t, f => .cons (f _ _ r) (Paired.mapP t f)
theorem ObjOk.stay (x : ObjOk P w H h a o) (k : ∀ b u, (b = a ∨ H b = some (.own a)) → h.get? b = some u → h'.get? b = some u)
    (ho : ∀ b, H b = some (.own a) → H' b = some (.own a)) (ht : ∀ b xs, H b = some (.tup xs) → H' b = some (.tup xs)) : ObjOk P w H' h' a o := by
  induction o with
  | lst xs => obtain ⟨z, its, n, r, e⟩ := x; exact ⟨z, its, n, r, k _ _ (.inl rfl) e⟩
  | tup xs => obtain ⟨z, its, r, ob, e, c⟩ := x; exact ⟨z, its, r, ob, k _ _ (.inl rfl) e, c⟩
  | dK kvs => obtain ⟨z, y, vs, r, ob, es, ep, e, c⟩ := x; exact ⟨z, y, vs, r, ob, es, ep, k _ _ (.inl rfl) e, c⟩
  | dT kvs =>
    obtain ⟨z, y, xs, r, ob, es, ep, e, c⟩ := x
    exact ⟨z, y, xs, Paired.mapP r fun p q z => ⟨z.1, ht _ _ z.2.1, z.2.2⟩, ob, es, ep, k _ _ (.inl rfl) e, c⟩
  | set S n => obtain ⟨ob, es, ep, t, e, c⟩ := x; exact ⟨ob, es, ep, t, k _ _ (.inl rfl) e, c⟩
  | ins C dx fs =>
    obtain ⟨d, z, ne, e, mA, ⟨od, es, ep, e2, c⟩, r⟩ := x
    exact ⟨ho _ d, z, ne, k _ _ (.inl rfl) e, mA, ⟨od, es, ep, k _ _ (.inr d) e2, c⟩, r⟩
  | own y => obtain ⟨ob, e⟩ := x; exact ⟨ob, k _ _ (.inl rfl) e⟩
  | xd fs => obtain ⟨mA, ⟨od, es, ep, e, c⟩, r⟩ := x; exact ⟨mA, ⟨od, es, ep, k _ _ (.inl rfl) e, c⟩, r⟩
  | rng lo hi => obtain ⟨t, u, v, e⟩ := x; exact ⟨t, u, v, k _ _ (.inl rfl) e⟩
  | frz ob u ih => obtain ⟨e, q⟩ := x; exact ⟨k _ _ (.inl rfl) e, ih q⟩
  | tbl ps =>
    have e : h.get? a = some { cls := .none, data := .fields ps } := x
    show h'.get? a = some { cls := .none, data := .fields ps }
    exact k a _ (.inl rfl) e
  | met f y =>
    have e : h.get? a = some (PySem.W.methodObj (.ref f) (.ref y)) := x
    show h'.get? a = some (PySem.W.methodObj (.ref f) (.ref y))
    exact k a _ (.inl rfl) e
  | ext φ => obtain ⟨p, ⟨o, e⟩, st⟩ := x; exact ⟨st _ _ p fun o q => k _ _ (.inl rfl) q, ⟨o, k _ _ (.inl rfl) e⟩, st⟩
theorem HOk.lt (x : HOk P w H h) (e : H a = some o) : a < h.objs.size := (x a o e).lt
theorem HOk.fresh (x : HOk P w H h) (e : h.objs.size ≤ a) : H a = none := by
  cases q : H a with
  | none => rfl
  | some u => exact absurd (Nat.lt_of_lt_of_le (x.lt q) e) (Nat.lt_irrefl _)
theorem HOk.kept (x : HOk P w H h) (k : ∀ b u, h.get? b = some u → h'.get? b = some u) : HOk P w H h' := fun a o e =>
  (x a o e).stay (fun b u _ q => k b u q) (fun _ q => q) fun _ _ q => q
theorem HOk.laid (x : HOk P w H h) (k : ∀ b u, h.get? b = some u → h'.get? b = some u) (hp : h.objs.size ≤ a) (new : ObjOk P w (upd H a o) h' a o) : HOk P w (upd H a o) h' := fun b u e => by
  have hn := x.fresh hp
  by_cases hb : b = a
  · subst hb; rw [upd_same] at e; cases e; exact new
  · rw [upd_ne hb] at e
    exact (x b u e).stay (fun c v _ q => k c v q) (fun c q => by rw [upd_ne (ne_of_none q hn)]; exact q) fun c xs q => by rw [upd_ne (ne_of_none q hn)]; exact q
end
noncomputable def Rd (H : Hp) (a : Addr) (u : HO) : Prop := H a = some u ∨ ∃ o, H a = some (.frz o u)
theorem Rd.of {H : Hp} {a : Addr} {u : HO} (h : H a = some u) : Rd H a u := .inl h
theorem Rd.ok {P : Program} {w : World} {H : Hp} {h : Heap} {a : Addr} {u : HO} (r : Rd H a u) (x : HOk P w H h) : ObjOk P w H h a u := by
  rcases r with r | ⟨o, r⟩
  · exact x a u r
  · obtain ⟨_, q⟩ := x a _ r
    exact q
noncomputable def Mut : Option HO → Prop
  | some (.lst _) => True
  | some (.dK _) => True
  | some (.dT _) => True
  | some (.set _ _) => True
  | some (.ins _ _ _) => True
  | some (.ext _) => True
  | _ => False
section
variable {P : Program} {w : World} {H : Hp} {h h' : Heap} {x e : Addr} {o' : HO}
theorem HOk.write (ok : HOk P w H h) (mu : Mut (H x)) (he : e = x ∨ H e = some (.own x)) (k : ∀ b u, b ≠ e → h.get? b = some u → h'.get? b = some u) (heo : ∃ u, h'.get? e = some u)
    (new : ObjOk P w (upd H x o') h' x o') : HOk P w (upd H x o') h' := fun b u q => by
  have nown : ∀ c y, H c = some (.own y) → c ≠ x := fun c y r z => by subst z; rw [r] at mu; exact mu
  have ntup : ∀ c xs, H c = some (.tup xs) → c ≠ x := fun c xs r z => by subst z; rw [r] at mu; exact mu
  by_cases hb : b = x
  · subst hb; rw [upd_same] at q; cases q; exact new
  · rw [upd_ne hb] at q
    by_cases hbe : b = e
    · have q' : H b = some (.own x) := by
        rcases he with z | z
        · exact absurd (hbe.trans z) hb
        · rw [hbe]; exact z
      rw [q] at q'; cases q'
      obtain ⟨v, hv⟩ := heo
      exact ⟨v, by rw [hbe]; exact hv⟩
    · refine (ok b u q).stay (fun c v hc r => k c v ?_ r) (fun c r => by rw [upd_ne (nown c b r)]; exact r) fun c xs r => by rw [upd_ne (ntup c xs r)]; exact r
      rcases hc with rfl | hc
      · exact hbe
      · rintro rfl
        rcases he with z | z
        · exact nown c b hc z
        · rw [hc] at z; cases z; exact hb rfl
end
structure Un (fs ex : List Addr) (H H' : Hp) (h h' : Heap) : Prop where
  keep : ∀ b o, h.get? b = some o → H b = none → b ∉ fs → b ∉ ex → h'.get? b = some o
  slot : ∀ b o, h.get? b = some o → H b = none → b ∈ fs → b ∉ ex → ∃ sl, h'.get? b = some { o with slots := sl }
  free : ∀ b o, h.get? b = some o → H b = none → b ∉ ex → H' b = none
  there : ∀ b o, h.get? b = some o → b ∉ ex → ∃ o', h'.get? b = some o'
  tups : ∀ b xs, H b = some (.tup xs) → H' b = some (.tup xs)
  frzs : ∀ b o u, H b = some (.frz o u) → H' b = some (.frz o u)
  tbls : ∀ b ps, H b = some (.tbl ps) → ∃ more, H' b = some (.tbl (ps ++ more))
section
variable {fs fs' ex ex' : List Addr} {H H1 H2 : Hp} {h h1 h2 h' : Heap} {a x e : Addr} {o : HO}
theorem Un.any (u : Un fs ex H H1 h h1) {b : Addr} {ob : Obj} (q : h.get? b = some ob) (n : H b = none) (hx : b ∉ ex) : ∃ sl, h1.get? b = some { ob with slots := sl } := by
  by_cases hb : b ∈ fs
  · exact u.slot b ob q n hb hx
  · exact ⟨ob.slots, u.keep b ob q n hb hx⟩
theorem Un.trans (a : Un fs ex H H1 h h1) (b : Un fs ex H1 H2 h1 h2) : Un fs ex H H2 h h2 where
  keep := fun c ob q n hc hx => b.keep c ob (a.keep c ob q n hc hx) (a.free c ob q n hx) hc hx
  slot := fun c ob q n hc hx => by
    obtain ⟨sl, e1⟩ := a.slot c ob q n hc hx
    obtain ⟨sl', e2⟩ := b.slot c _ e1 (a.free c ob q n hx) hc hx
    exact ⟨sl', e2⟩
  free := fun c ob q n hx => by
    obtain ⟨o', e1⟩ := a.there c ob q hx
    exact b.free c o' e1 (a.free c ob q n hx) hx
  there := fun c ob q hx => by
    obtain ⟨o', e1⟩ := a.there c ob q hx
    exact b.there c o' e1 hx
  tups := fun c xs q => b.tups c xs (a.tups c xs q)
  frzs := fun c ob xs q => b.frzs c ob xs (a.frzs c ob xs q)
  tbls := fun c ps q => by
    obtain ⟨m1, e1⟩ := a.tbls c ps q
    obtain ⟨m2, e2⟩ := b.tbls c _ e1
    exact ⟨m1 ++ m2, by rw [e2, Array.append_assoc]⟩
theorem Un.kept (k : ∀ b u, h.get? b = some u → h'.get? b = some u) : Un fs ex H H h h' :=
  ⟨fun b ob q _ _ _ => k b ob q, fun b ob q _ _ _ => ⟨ob.slots, k b ob q⟩, fun _ _ _ n _ => n, fun b ob q _ => ⟨ob, k b ob q⟩, fun _ _ q => q, fun _ _ _ q => q, fun _ ps q => ⟨#[], by rw [q]; simp⟩⟩
theorem Un.refl : Un fs ex H H h h := Un.kept fun _ _ q => q
theorem Un.laid (k : ∀ b u, h.get? b = some u → h'.get? b = some u) (hp : h.objs.size ≤ a) (hn : H a = none) : Un fs ex H (upd H a o) h h' where
  keep := fun b u q _ _ _ => k b u q
  slot := fun b u q _ _ _ => ⟨u.slots, k b u q⟩
  free := fun b u q n _ => by rw [upd_ne (Nat.ne_of_lt (Nat.lt_of_lt_of_le (Heap.lt_size q) hp))]; exact n
  there := fun b u q _ => ⟨u, k b u q⟩
  tups := fun b xs q => by rw [upd_ne (ne_of_none q hn)]; exact q
  frzs := fun b u xs q => by rw [upd_ne (ne_of_none q hn)]; exact q
  tbls := fun b ps q => ⟨#[], by rw [upd_ne (ne_of_none q hn), q]; simp⟩
theorem Un.write (mu : Mut (H x)) (he : e = x ∨ H e = some (.own x)) (k : ∀ b u, b ≠ e → h.get? b = some u → h'.get? b = some u) (heo : ∃ u, h'.get? e = some u) : Un fs ex H (upd H x o) h h' := by
  have hx : ∀ b, H b = none → b ≠ x := fun b n z => by subst z; rw [n] at mu; exact mu
  have hb : ∀ b, H b = none → b ≠ e := fun b n z => by
    subst z
    rcases he with r | r
    · exact hx b n r
    · rw [n] at r; cases r
  have hm : ∀ b u, H b = some u → ¬ Mut (some u) → b ≠ x := fun b u q nm z => by subst z; rw [q] at mu; exact nm mu
  refine ⟨fun b u q n _ _ => k b u (hb b n) q, fun b u q n _ _ => ⟨u.slots, k b u (hb b n) q⟩, fun b u q n _ => by rw [upd_ne (hx b n)]; exact n, fun b u q _ => ?_,
    fun b xs q => by rw [upd_ne (hm b _ q fun z => z)]; exact q, fun b u xs q => by rw [upd_ne (hm b _ q fun z => z)]; exact q, fun b ps q => ⟨#[], by rw [upd_ne (hm b _ q fun z => z), q]; simp⟩⟩
  by_cases hbe : b = e
  · subst hbe; exact heo
  · exact ⟨u, k b u hbe q⟩
theorem Un.mono (u : Un fs ex H H1 h h1) (hs : ∀ b ∈ fs, b ∈ fs') (hx : ∀ b ∈ ex, b ∈ ex') : Un fs' ex' H H1 h h1 :=
  ⟨fun b ob q n hb he => u.keep b ob q n (fun z => hb (hs b z)) fun z => he (hx b z), fun _ _ q n _ he => u.any q n fun z => he (hx _ z), fun b ob q n he => u.free b ob q n fun z => he (hx b z), fun b ob q he => u.there b ob q fun z => he (hx b z), u.tups, u.frzs, u.tbls⟩
end
noncomputable def trk (h : Heap) (H : Hp) : List Addr := (List.range h.objs.size).filter fun a => (H a).isSome
noncomputable def hidT (h : Heap) (H : Hp) : Heap := PySem.W.hideAll h (trk h H)
theorem hidT_size (h : Heap) (H : Hp) : (hidT h H).objs.size = h.objs.size := PySem.W.hideAll_size _ _
theorem hidT_get {h : Heap} {H : Hp} {b : Addr} {o : Obj} (e : h.get? b = some o) (n : H b = none) : (hidT h H).get? b = some o :=
  PySem.W.hideAll_get _ e fun hm => by
    have q : (H b).isSome = true := (List.mem_filter.mp hm).2
    rw [n] at q; simp at q
theorem of_hidT {h : Heap} {H : Hp} {b : Addr} {o : Obj} (e : (hidT h H).get? b = some o) : h.get? b = some o ∧ H b = none := by
  have e' : h.get? b = some o := PySem.W.of_hideAll (trk h H) e
  refine ⟨e', ?_⟩
  cases q : H b with
  | none => rfl
  | some x =>
    have hm : b ∈ trk h H := List.mem_filter.mpr ⟨List.mem_range.mpr (Heap.lt_size e'), by simp [q]⟩
    have z : (hidT h H).get? b = none := PySem.W.hideAll_none (trk h H) hm
    rw [z] at e; cases e
noncomputable def allNews (g h : Heap) (L : Addr) : List (Addr × Obj) := (List.range h.objs.size).filterMap fun a => if a = L ∨ (g.get? a).isSome = true then none else (h.get? a).map fun o => (a, o)
noncomputable def rest (g h : Heap) (L d : Addr) : List (Addr × Obj) := (allNews g h L).filter fun p => decide (p.1 ≠ d)
end L2
namespace L2
open PySem PySem.Spec PyProof.Rows
structure Mod (K : PySem.W.Frag) (mg : Str → Option Value) (base : Heap) : Prop where
  kin : K.In base
  glob : base.Ns mainGlobals mg
  blt : ∃ mb, base.Ns builtinsNs mb ∧ ∀ x : Str, x ≠ "__name__" → mb x = bootBuiltins x
  nolimit : base.NoLimit
structure Cx where
  prog : Program
  w : World
  K : PySem.W.Frag
  mg : Str → Option Value
  base : Heap
  A : Around
  N : List Str
  s₀ : Shared
  H₀ : Hp
  env : Env
  outer : List Env
  stack : List Env
  ex : List Addr
  fn : Str → Bool
  calm : Bool
  pn : List (Addr × Obj)
  xe : Value → Shared → Prop
noncomputable def frs (l : List Env) : List Addr := l.filterMap (·.frame)
noncomputable abbrev Cx.fs (X : Cx) : List Addr := frs X.outer
noncomputable def Vis (sc : Scope) (x : Str) : Prop := sc.names.lookup x = some .local ∨ sc.names.lookup x = some .cell ∨ sc.names.lookup x = some .free
noncomputable def Loc (sc : Scope) (x : Str) : Prop := sc.names.lookup x = some .local ∨ sc.names.lookup x = some .cell
noncomputable def Look (env : Env) (h : Heap) (m : Str → Option Value) (x : Str) (u : Value) : Prop :=
  (env.kindOf x = some .local ∧ m x = some u) ∨ ((env.kindOf x = some .cell ∨ env.kindOf x = some .free) ∧ ∃ c, env.cells.lookup x = some c ∧ h.IsCell c (some u))
structure Cx.Ok (X : Cx) : Prop where
  mod : Mod X.K X.mg X.base
  kind : X.env.scope.kind = .function
  glob : X.env.globals = mainGlobals
  blt : X.env.builtins = builtinsNs
  above : X.s₀.heap.objs.size ≤ X.env.locals
  inj : ∀ x y c, X.env.cells.lookup x = some c → X.env.cells.lookup y = some c → x = y
  has : ∀ x, (X.env.kindOf x = some .cell ∨ X.env.kindOf x = some .free) → ∃ c, X.env.cells.lookup x = some c
  cab : ∀ x c, X.fn x = true → X.env.cells.lookup x = some c → X.s₀.heap.objs.size ≤ c
  hd : X.calm = true → X.A.handled = none
  frames : X.A.frames = some X.stack
  stk : X.stack = X.outer ∨ (X.stack = X.env :: X.outer ∧ X.env.frame = some X.env.locals)
  exf : ∀ b ∈ X.ex, b ≠ X.env.locals ∧ ∀ x c, X.env.cells.lookup x = some c → c ≠ b
  bs : ∀ b o, X.base.get? b = some o → X.s₀.heap.get? b = some o ∧ X.H₀ b = none
  bsz : X.base.objs.size ≤ X.s₀.heap.objs.size
  noex : ∀ b o, X.base.get? b = some o → b ∉ X.ex
  exfs : ∀ b ∈ X.ex, b ∉ X.fs
  funs : X.s₀.heap.FunFrames X.base X.outer
  frf : ∀ b ∈ X.fs, X.H₀ b = none
structure Inv (X : Cx) (pins : List (Addr × Obj)) (σ : List (Option V)) (H : Hp) (s : Shared) : Prop where
  ok : X.Ok
  os : s.os = X.s₀.os
  bare : AllBare s.gens
  base : Un X.fs X.ex X.H₀ H X.s₀.heap s.heap
  loc : ∃ m, s.heap.Ns X.env.locals m ∧ ∀ (i : Nat) (x : Str) (v : V), X.N[i]? = some x → σ[i]? = some (some v) → Vis X.env.scope x → ∃ u, RelV v u ∧ Look X.env s.heap m x u
  cell : ∀ x c, X.env.cells.lookup x = some c → ∃ v, s.heap.IsCell c v
  free : H X.env.locals = none
  freeC : ∀ x c, X.env.cells.lookup x = some c → H c = none
  pin : ∀ p ∈ X.pn ++ pins, s.heap.get? p.1 = some p.2 ∧ H p.1 = none ∧ p.1 ≠ X.env.locals ∧ p.1 ∉ X.fs ∧ ∀ v, p.2.data ≠ .cell v
  hok : HOk X.prog X.w H s.heap
  len : σ.length = X.N.length
section
variable {X : Cx} {pins : List (Addr × Obj)} {σ : List (Option V)} {H H' : Hp} {s : Shared} {h' : Heap}
theorem Cx.Ok.nofr (ok : X.Ok) {b : Addr} {o : Obj} (e : X.base.get? b = some o) : b ∉ X.fs := fun hb => by
  have := (ok.funs.mem hb).1
  rw [e] at this; cases this
theorem Inv.bs (I : Inv X pins σ H s) : ∀ b o, X.base.get? b = some o → s.heap.get? b = some o ∧ H b = none := fun b o e =>
  ⟨I.base.keep b o (I.ok.bs b o e).1 (I.ok.bs b o e).2 (I.ok.nofr e) (I.ok.noex b o e), I.base.free b o (I.ok.bs b o e).1 (I.ok.bs b o e).2 (I.ok.noex b o e)⟩
theorem Inv.bk (I : Inv X pins σ H s) : ∀ b o, X.base.get? b = some o → s.heap.get? b = some o := fun b o e => (I.bs b o e).1
theorem Inv.mod (I : Inv X pins σ H s) : Mod X.K X.mg X.base := I.ok.mod
theorem Inv.kIn (I : Inv X pins σ H s) : X.K.In s.heap := I.ok.mod.kin.keeps I.bk
theorem Inv.nolimit (I : Inv X pins σ H s) : s.heap.NoLimit := I.ok.mod.nolimit.keeps I.bk
theorem Inv.fr (I : Inv X pins σ H s) : ∃ m, Fr X.base X.env.locals s.heap m :=
  let ⟨m, hn, _⟩ := I.loc
  ⟨m, hn, I.bk, Nat.le_trans I.ok.bsz I.ok.above⟩
theorem Inv.lt (I : Inv X pins σ H s) : X.env.locals < s.heap.objs.size := let ⟨_, hn, _⟩ := I.loc; hn.lt
theorem Inv.sz (I : Inv X pins σ H s) : X.s₀.heap.objs.size ≤ s.heap.objs.size := Nat.le_trans I.ok.above (Nat.le_of_lt I.lt)
theorem Inv.nofs (I : Inv X pins σ H s) {a : Addr} (h : s.heap.objs.size ≤ a) : a ∉ X.fs := fun hb => by
  obtain ⟨_, o, ho, _⟩ := I.ok.funs.mem hb
  exact absurd (Nat.lt_of_lt_of_le (Heap.lt_size ho) (Nat.le_trans I.sz h)) (Nat.lt_irrefl _)
theorem Inv.cne (I : Inv X pins σ H s) : ∀ x c, X.env.cells.lookup x = some c → c ≠ X.env.locals := fun x c e z => by
  obtain ⟨v, o, ho, hd⟩ := I.cell x c e
  obtain ⟨m, ⟨o', es, ep, ho', hd', _⟩, _⟩ := I.loc
  rw [z, ho'] at ho; cases ho; rw [hd'] at hd; cases hd
theorem Inv.funs (I : Inv X pins σ H s) : s.heap.FunFrames X.base X.outer := by
  have all : ∀ (l : List Env), (∀ b ∈ frs l, b ∈ X.fs) → X.s₀.heap.FunFrames X.base l → s.heap.FunFrames X.base l := by
    intro l
    induction l with
    | nil => intro _ _; trivial
    | cons env r ih =>
      intro hs hl
      obtain ⟨hk, ⟨L, o, hf, hn, ho, hd⟩, hr⟩ := hl
      have hL : L ∈ X.fs := hs L (by unfold frs; rw [List.filterMap_cons, hf]; exact List.mem_cons_self)
      obtain ⟨sl, e⟩ := I.base.slot L o ho (I.ok.frf L hL) hL fun z => I.ok.exfs L z hL
      exact ⟨hk, ⟨L, _, hf, hn, e, hd⟩, ih (fun b hb => hs b (by unfold frs; rw [List.filterMap_cons, hf]; exact List.mem_cons_of_mem _ hb)) hr⟩
  exact all X.outer (fun _ hb => hb) I.ok.funs
theorem Inv.stack (I : Inv X pins σ H s) : s.heap.FunFrames X.base X.stack := by
  rcases I.ok.stk with e | ⟨e, hf⟩
  · rw [e]; exact I.funs
  · rw [e]
    obtain ⟨m, hn, _⟩ := I.loc
    refine .cons (by rw [I.ok.kind]; decide) hf hn ?_ I.funs
    exact Heap.get?_none_of_le (Nat.le_trans I.ok.bsz I.ok.above)
theorem Inv.stkSub (I : Inv X pins σ H s) : ∀ b ∈ frs X.stack, b ∈ X.env.locals :: X.fs := fun b hb => by
  rcases I.ok.stk with e | ⟨e, hf⟩
  · rw [e] at hb; exact List.mem_cons_of_mem _ hb
  · rw [e] at hb
    unfold frs at hb
    rw [List.filterMap_cons, hf] at hb
    exact hb
theorem Inv.stkFree (I : Inv X pins σ H s) : ∀ b ∈ frs X.stack, H b = none := fun b hb => by
  rcases List.mem_cons.mp (I.stkSub b hb) with e | hb
  · rw [e]; exact I.free
  · obtain ⟨_, o, ho, _⟩ := I.ok.funs.mem hb
    exact I.base.free b o ho (I.ok.frf b hb) fun z => I.ok.exfs b z hb
theorem Inv.step {g' : Array GenState} {t' : Nat} {d' : Drawn} {ch : List Addr} (I : Inv X pins σ H s)
    (hch : ∀ b ∈ ch, (b ∈ X.ex ∨ X.s₀.heap.objs.size ≤ b) ∧ b ≠ X.env.locals ∧ (∀ x c, X.env.cells.lookup x = some c → c ≠ b) ∧ ∀ p ∈ X.pn ++ pins, p.1 ≠ b)
    (keep : ∀ b o, b ≠ X.env.locals → b ∉ X.fs → b ∉ ch → s.heap.get? b = some o → H b = none → h'.get? b = some o)
    (slot : ∀ b o, b ≠ X.env.locals → b ∈ X.fs → b ∉ ch → s.heap.get? b = some o → H b = none → ∃ sl, h'.get? b = some { o with slots := sl }) (free : ∀ b o, b ∉ ch → s.heap.get? b = some o → H b = none → H' b = none)
    (there : ∀ b o, b ∉ ch → s.heap.get? b = some o → ∃ o', h'.get? b = some o')
    (tups : ∀ b xs, H b = some (.tup xs) → H' b = some (.tup xs)) (frzs : ∀ b o u, H b = some (.frz o u) → H' b = some (.frz o u)) (tbls : ∀ b ps, H b = some (.tbl ps) → ∃ more, H' b = some (.tbl (ps ++ more)))
    (ns : ∀ m, s.heap.Ns X.env.locals m → h'.Ns X.env.locals m) (hok : HOk X.prog X.w H' h') (hg : AllBare g') :
    Inv X pins σ H' { s with heap := h', gens := g', drawn := d', toks := t' } := by
  have neL : ∀ b o, X.s₀.heap.get? b = some o → b ≠ X.env.locals := fun b o e => Nat.ne_of_lt (Nat.lt_of_lt_of_le (Heap.lt_size e) I.ok.above)
  have neC : ∀ b o, X.s₀.heap.get? b = some o → b ∉ X.ex → b ∉ ch := fun b o e hx hb => by
    rcases (hch b hb).1 with z | z
    · exact hx z
    · exact absurd (Nat.lt_of_lt_of_le (Heap.lt_size e) z) (Nat.lt_irrefl _)
  have cellK : ∀ x c, X.env.cells.lookup x = some c → ∀ v, s.heap.IsCell c v → h'.IsCell c v := fun x c e v ⟨o, ho, hd⟩ => by
    have nch : c ∉ ch := fun z => (hch c z).2.2.1 x c e rfl
    by_cases hc : c ∈ X.fs
    · obtain ⟨sl, q⟩ := slot c o (I.cne x c e) hc nch ho (I.freeC x c e)
      exact ⟨_, q, hd⟩
    · exact ⟨o, keep c o (I.cne x c e) hc nch ho (I.freeC x c e), hd⟩
  refine ⟨I.ok, I.os, hg, ⟨fun b o e n hb hx => ?_, fun b o e n hb hx => ?_, fun b o e n hx => ?_, fun b o e hx => ?_, fun b xs e => tups b xs (I.base.tups b xs e), fun b o xs e => frzs b o xs (I.base.frzs b o xs e), fun b ps e => ?_⟩, ?_, fun x c e => ?_, ?_, fun x c e => ?_, fun p hp => ?_, hok, I.len⟩
  · exact keep b o (neL b o e) hb (neC b o e hx) (I.base.keep b o e n hb hx) (I.base.free b o e n hx)
  · obtain ⟨sl, e1⟩ := I.base.slot b o e n hb hx
    obtain ⟨sl', e2⟩ := slot b _ (neL b o e) hb (neC b o e hx) e1 (I.base.free b o e n hx)
    exact ⟨sl', e2⟩
  · obtain ⟨o', e1⟩ := I.base.there b o e hx
    exact free b o' (neC b o e hx) e1 (I.base.free b o e n hx)
  · obtain ⟨o', e1⟩ := I.base.there b o e hx
    exact there b o' (neC b o e hx) e1
  · obtain ⟨m1, e1⟩ := I.base.tbls b ps e
    obtain ⟨m2, e2⟩ := tbls b _ e1
    exact ⟨m1 ++ m2, by rw [e2, Array.append_assoc]⟩
  · obtain ⟨m, hn, hl⟩ := I.loc
    refine ⟨m, ns m hn, fun i x v e1 e2 e3 => ?_⟩
    obtain ⟨u, r, l⟩ := hl i x v e1 e2 e3
    refine ⟨u, r, ?_⟩
    rcases l with l | ⟨k, c, e, z⟩
    · exact .inl l
    · exact .inr ⟨k, c, e, cellK x c e _ z⟩
  · obtain ⟨v, z⟩ := I.cell x c e
    exact ⟨v, cellK x c e v z⟩
  · obtain ⟨m, ⟨o, _, _, ho, _⟩, _⟩ := I.loc
    exact free _ o (fun z => (hch _ z).2.1 rfl) ho I.free
  · obtain ⟨v, o, ho, hd⟩ := I.cell x c e
    exact free c o (fun z => (hch c z).2.2.1 x c e rfl) ho (I.freeC x c e)
  · obtain ⟨e, n, ne, nf, d⟩ := I.pin p hp
    have nch : p.1 ∉ ch := fun z => (hch p.1 z).2.2.2 p hp rfl
    exact ⟨keep p.1 p.2 ne nf nch e n, free p.1 p.2 nch e n, ne, nf, d⟩
theorem Inv.un {t' : Nat} (I : Inv X pins σ H s) (u : Un X.fs [] H H' s.heap h') (hok : HOk X.prog X.w H' h') : Inv X pins σ H' { s with heap := h', toks := t' } := by
  obtain ⟨m, ⟨o, es, ep, ho, r⟩, _⟩ := id I.loc
  obtain ⟨sl, hL⟩ := u.any ho I.free (by simp)
  exact I.step (g' := s.gens) (d' := s.drawn) (ch := []) (fun _ z => nomatch z) (fun b o _ hb _ e n => u.keep b o e n hb (by simp)) (fun b o _ hb _ e n => u.slot b o e n hb (by simp)) (fun b o _ e n => u.free b o e n (by simp)) (fun b o _ e => u.there b o e (by simp)) u.tups u.frzs u.tbls (fun m' hm => by
    obtain ⟨o', es', ep', ho', r'⟩ := hm
    rw [ho] at ho'; cases ho'
    exact ⟨_, es', ep', hL, r'⟩) hok I.bare
theorem Inv.call {g' : Array GenState} {t' : Nat} {d' : Drawn} {ch : List Addr} (I : Inv X pins σ H s) (u : Un (frs X.stack) ch H H' s.heap h') (hok : HOk X.prog X.w H' h') (hg : AllBare g')
    (hch : ∀ b ∈ ch, (b ∈ X.ex ∨ X.s₀.heap.objs.size ≤ b) ∧ b ≠ X.env.locals ∧ (∀ x c, X.env.cells.lookup x = some c → c ≠ b) ∧ ∀ p ∈ X.pn ++ pins, p.1 ≠ b) :
    Inv X pins σ H' { s with heap := h', gens := g', drawn := d', toks := t' } := by
  obtain ⟨m, ⟨o, es, ep, ho, r⟩, _⟩ := id I.loc
  obtain ⟨sl, hL⟩ := u.any ho I.free fun z => (hch _ z).2.1 rfl
  exact I.step (ch := ch) hch (fun b o hL hb hc e n => u.keep b o e n (fun z => (List.mem_cons.mp (I.stkSub b z)).elim hL hb) hc) (fun b o _ _ hc e n => u.any e n hc) (fun b o hc e n => u.free b o e n hc) (fun b o hc e => u.there b o e hc) u.tups u.frzs u.tbls (fun m' hm => by
    obtain ⟨o', es', ep', ho', r'⟩ := hm
    rw [ho] at ho'; cases ho'
    exact ⟨_, es', ep', hL, r'⟩) hok hg
theorem Inv.turned {t' : Nat} {it : Addr} (I : Inv X pins σ H s) (k : ∀ b o, b ≠ it → s.heap.get? b = some o → h'.get? b = some o) (hn : H it = none) (hL : it ≠ X.env.locals)
    (h1 : it ∈ X.ex ∨ X.s₀.heap.objs.size ≤ it) (h2 : ∀ x c, X.env.cells.lookup x = some c → c ≠ it) (h3 : ∀ p ∈ X.pn ++ pins, p.1 ≠ it) : Inv X pins σ H { s with heap := h', toks := t' } := by
  have nit : ∀ b u, H b = some u → b ≠ it := fun b u e z => by rw [z, hn] at e; cases e
  refine I.step (g' := s.gens) (d' := s.drawn) (ch := [it]) (fun b hb => ?_) (fun b o _ _ hc e _ => k b o (fun z => hc (by simp [z])) e) (fun b o _ _ hc e _ => ⟨o.slots, k b o (fun z => hc (by simp [z])) e⟩) (fun _ _ _ _ n => n)
    (fun b o hc e => ⟨o, k b o (fun z => hc (by simp [z])) e⟩) (fun _ _ e => e) (fun _ _ _ e => e) (fun b ps e => ⟨#[], by rw [e]; simp⟩) (fun m hm => ?_) (fun b u e => ?_) I.bare
  · have e : b = it := by simpa using hb
    subst e
    exact ⟨h1, hL, h2, h3⟩
  · obtain ⟨o, es, ep, ho, r⟩ := hm
    exact ⟨o, es, ep, k _ o (Ne.symm hL) ho, r⟩
  · refine (I.hok b u e).stay (fun c v hc q => k c v ?_ q) (fun _ q => q) fun _ _ q => q
    rcases hc with z | z
    · rw [z]; exact nit b u e
    · exact nit c _ z
theorem Inv.tok (I : Inv X pins σ H s) (t : Nat) : Inv X pins σ H { s with toks := t } := I.un (h' := s.heap) (t' := t) Un.refl I.hok
theorem Inv.kept {t' : Nat} (I : Inv X pins σ H s) (k : ∀ b u, s.heap.get? b = some u → h'.get? b = some u) : Inv X pins σ H { s with heap := h', toks := t' } := I.un (Un.kept k) (I.hok.kept k)
theorem Inv.laid {a : Addr} {o : HO} {t' : Nat} (I : Inv X pins σ H s) (k : ∀ b u, s.heap.get? b = some u → h'.get? b = some u) (hp : s.heap.objs.size ≤ a) (new : ObjOk X.prog X.w (upd H a o) h' a o) :
    Inv X pins σ (upd H a o) { s with heap := h', toks := t' } := I.un (Un.laid k hp (I.hok.fresh hp)) (I.hok.laid k hp new)
theorem Inv.write {x e : Addr} {o : HO} {t' : Nat} (I : Inv X pins σ H s) (mu : Mut (H x)) (he : e = x ∨ H e = some (.own x)) (k : ∀ b u, b ≠ e → s.heap.get? b = some u → h'.get? b = some u) (heo : ∃ u, h'.get? e = some u)
    (new : ObjOk X.prog X.w (upd H x o) h' x o) : Inv X pins σ (upd H x o) { s with heap := h', toks := t' } := I.un (Un.write mu he k heo) (I.hok.write mu he k heo new)
theorem Inv.pins_of {pins' : List (Addr × Obj)} (I : Inv X pins σ H s) (h : ∀ p ∈ pins', s.heap.get? p.1 = some p.2 ∧ H p.1 = none ∧ p.1 ≠ X.env.locals ∧ p.1 ∉ X.fs ∧ ∀ v, p.2.data ≠ .cell v) : Inv X pins' σ H s :=
  ⟨I.ok, I.os, I.bare, I.base, I.loc, I.cell, I.free, I.freeC, fun p hp => (List.mem_append.mp hp).elim (fun z => I.pin p (List.mem_append_left _ z)) (h p), I.hok, I.len⟩
theorem nodup_ix {N : List Str} (hN : N.Nodup) {i j : Nat} {x : Str} (a : N[i]? = some x) (b : N[j]? = some x) : i = j := by
  obtain ⟨h1, e1⟩ := List.getElem?_eq_some_iff.mp a
  obtain ⟨h2, e2⟩ := List.getElem?_eq_some_iff.mp b
  exact (List.getElem_inj hN).mp (e1.trans e2.symm)
theorem store_ok2 {M : Model} {A : Around} {E : Value → Shared → Prop} {i : Nat} {x : Str} {v : V} {u : Value} {Q : Unit → Shared → Prop} (I : Inv X pins σ H s) (hN : X.N.Nodup) (hi : X.N[i]? = some x) (hx : Loc X.env.scope x) (r : RelV v u)
    (h : ∀ s', Inv X pins (σ.set i (some v)) H s' → (∃ a, Heap.SameBut a s.heap s'.heap ∧ (a = X.env.locals ∨ X.env.cells.lookup x = some a)) → Q () s') (hf : X.fn x = true ∨ X.env.scope.names.lookup x = some .local := by first | exact .inl rfl | exact .inr rfl | assumption) : wpAny M A (storeName X.env x u) Q E s := by
  obtain ⟨m, hn, hl⟩ := id I.loc
  have hcls : (X.env.scope.kind == .class || (X.env.scope.kind == .module && X.env.locals != X.env.globals)) = false := by rw [I.ok.kind]; rfl
  have hiσ : i < σ.length := by rw [I.len]; exact (List.getElem?_eq_some_iff.mp hi).1
  have cne := I.cne
  have tracked : ∀ {a : Addr} {h' : Heap}, (∃ o, s.heap.get? a = some o ∧ H a = none) → Heap.SameBut a s.heap h' → HOk X.prog X.w H h' := fun {a h'} ha hs b ob e => by
    obtain ⟨_, _, hfree⟩ := ha
    refine (I.hok b ob e).stay (fun c w' hc q => (hs.2 c ?_).trans q) (fun _ q => q) fun _ _ q => q
    rintro rfl
    rcases hc with rfl | hc
    · rw [hfree] at e; cases e
    · rw [hfree] at hc; cases hc
  rcases hx with hk | hk
  · refine wpAny_storeName_local hk hn (fun h' hn' hs => ?_) hcls
    obtain ⟨oL, _, _, hoL, _⟩ := id hn
    refine h _ ⟨I.ok, I.os, I.bare, ⟨fun b o e n hb hx => ?_, fun b o e n hb hx => ?_, I.base.free, fun b o e hx => ?_, I.base.tups, I.base.frzs, I.base.tbls⟩, ⟨_, hn', fun j y v' e1 e2 e3 => ?_⟩, fun y c e => ?_, I.free, I.freeC, fun p hp => ?_, tracked ⟨oL, hoL, I.free⟩ hs, by simpa using I.len⟩ ⟨_, hs, .inl rfl⟩
    · exact (hs.2 b (Nat.ne_of_lt (Nat.lt_of_lt_of_le (Heap.lt_size e) I.ok.above))).trans (I.base.keep b o e n hb hx)
    · obtain ⟨sl, e1⟩ := I.base.slot b o e n hb hx
      exact ⟨sl, (hs.2 b (Nat.ne_of_lt (Nat.lt_of_lt_of_le (Heap.lt_size e) I.ok.above))).trans e1⟩
    · obtain ⟨o', e1⟩ := I.base.there b o e hx
      exact ⟨o', (hs.2 b (Nat.ne_of_lt (Nat.lt_of_lt_of_le (Heap.lt_size e) I.ok.above))).trans e1⟩
    · by_cases hj : j = i
      · subst hj
        rw [hi] at e1; cases e1
        rw [List.getElem?_set_self hiσ] at e2
        cases e2
        exact ⟨u, r, .inl ⟨hk, by simp⟩⟩
      · rw [List.getElem?_set_ne (Ne.symm hj)] at e2
        obtain ⟨u', r', q⟩ := hl j y v' e1 e2 e3
        refine ⟨u', r', ?_⟩
        rcases q with ⟨k, e⟩ | ⟨k, c, e, z⟩
        · refine .inl ⟨k, ?_⟩
          have : y ≠ x := fun e => hj (nodup_ix hN e1 (e ▸ hi))
          simp [this, e]
        · exact .inr ⟨k, c, e, z.sameBut hs (cne y c e)⟩
    · obtain ⟨w', z⟩ := I.cell y c e
      exact ⟨w', z.sameBut hs (cne y c e)⟩
    · obtain ⟨e, n, ne, nf, d⟩ := I.pin p hp
      exact ⟨(hs.2 p.1 ne).trans e, n, ne, nf, d⟩
  · have hfn : X.fn x = true := by
      rcases hf with z | z
      · exact z
      · rw [z] at hk; cases hk
    obtain ⟨c, hc⟩ := I.ok.has x (.inl hk)
    obtain ⟨w', z⟩ := I.cell x c hc
    refine wpAny_storeName_cell I.ok.kind hk hc z (fun h' hc' hs => ?_)
    obtain ⟨oc, hoc, hocd⟩ := id z
    refine h { s with heap := h' } ⟨I.ok, I.os, I.bare, ⟨fun b o e n hb hx => ?_, fun b o e n hb hx => ?_, I.base.free, fun b o e hx => ?_, I.base.tups, I.base.frzs, I.base.tbls⟩, ⟨m, hn.sameBut hs (Ne.symm (cne x c hc)), fun j y v' e1 e2 e3 => ?_⟩, fun y c' e => ?_, I.free, I.freeC, fun p hp => ?_, tracked ⟨oc, hoc, I.freeC x c hc⟩ hs, by simpa using I.len⟩ ⟨c, hs, .inr hc⟩
    · exact (hs.2 b (Nat.ne_of_lt (Nat.lt_of_lt_of_le (Heap.lt_size e) (I.ok.cab x c hfn hc)))).trans (I.base.keep b o e n hb hx)
    · obtain ⟨sl, e1⟩ := I.base.slot b o e n hb hx
      exact ⟨sl, (hs.2 b (Nat.ne_of_lt (Nat.lt_of_lt_of_le (Heap.lt_size e) (I.ok.cab x c hfn hc)))).trans e1⟩
    · obtain ⟨o', e1⟩ := I.base.there b o e hx
      exact ⟨o', (hs.2 b (Nat.ne_of_lt (Nat.lt_of_lt_of_le (Heap.lt_size e) (I.ok.cab x c hfn hc)))).trans e1⟩
    · by_cases hj : j = i
      · subst hj
        rw [hi] at e1; cases e1
        rw [List.getElem?_set_self hiσ] at e2
        cases e2
        exact ⟨u, r, .inr ⟨.inl hk, c, hc, hc'⟩⟩
      · rw [List.getElem?_set_ne (Ne.symm hj)] at e2
        obtain ⟨u', r', q⟩ := hl j y v' e1 e2 e3
        refine ⟨u', r', ?_⟩
        rcases q with q | ⟨k, c', e, z'⟩
        · exact .inl q
        · refine .inr ⟨k, c', e, z'.sameBut hs ?_⟩
          rintro rfl
          exact hj (nodup_ix hN e1 (I.ok.inj _ _ _ e hc ▸ hi))
    · by_cases hcc : c' = c
      · subst hcc; exact ⟨_, hc'⟩
      · obtain ⟨w2, z2⟩ := I.cell y c' e
        exact ⟨w2, z2.sameBut hs hcc⟩
    · obtain ⟨e, n, ne, nf, d⟩ := I.pin p hp
      refine ⟨(hs.2 p.1 ?_).trans e, n, ne, nf, d⟩
      intro q
      rw [q, hoc] at e
      have q' : oc = p.2 := Option.some.inj e
      exact d w' (by rw [← q']; exact hocd)
theorem store_ok {M : Model} {A : Around} {E : Value → Shared → Prop} {i : Nat} {x : Str} {v : V} {u : Value} {Q : Unit → Shared → Prop} (I : Inv X pins σ H s) (hN : X.N.Nodup) (hi : X.N[i]? = some x) (hx : Loc X.env.scope x) (r : RelV v u)
    (h : ∀ s', Inv X pins (σ.set i (some v)) H s' → Q () s') (hf : X.fn x = true ∨ X.env.scope.names.lookup x = some .local := by first | exact .inl rfl | exact .inr rfl | assumption) : wpAny M A (storeName X.env x u) Q E s :=
  store_ok2 I hN hi hx r (fun s' I' _ => h s' I') hf
theorem Inv.call' {s' : Shared} {ch : List Addr} (I : Inv X pins σ H s) (ho : s'.os = s.os) (u : Un (frs X.stack) ch H H' s.heap s'.heap) (hok : HOk X.prog X.w H' s'.heap) (hg : AllBare s'.gens)
    (hch : ∀ b ∈ ch, (b ∈ X.ex ∨ X.s₀.heap.objs.size ≤ b) ∧ b ≠ X.env.locals ∧ (∀ x c, X.env.cells.lookup x = some c → c ≠ b) ∧ ∀ p ∈ X.pn ++ pins, p.1 ≠ b) : Inv X pins σ H' s' := by
  obtain ⟨h', g', d', t', o'⟩ := s'
  have e : o' = s.os := ho
  subst e
  exact I.call (g' := g') (t' := t') (d' := d') u hok hg hch
end
noncomputable abbrev XK := Value → Option Addr → Hp → Prop
noncomputable abbrev St := List (Option V)
noncomputable abbrev VK := V → Hp → Prop
noncomputable abbrev TE := St → Hp → VK → Prop
noncomputable abbrev TT := St → Hp → (Bool → Hp → Prop) → Prop
noncomputable abbrev TA := St → Hp → (List V → Hp → Prop) → Prop
structure Ends where
  nx : St → Hp → Prop
  rt : VK
  bk : St → Hp → Prop := fun _ _ => False
  ct : St → Hp → Prop := fun _ _ => False
noncomputable abbrev TS := Ends → St → Hp → Prop
noncomputable def EP (X : Cx) (pins : List (Addr × Obj)) (σ : St) (Q : VK) (u : Value) (s' : Shared) : Prop := ∃ v H', Inv X pins σ H' s' ∧ RelV v u ∧ Q v H'
noncomputable def TP (X : Cx) (pins : List (Addr × Obj)) (σ : St) (Q : Bool → Hp → Prop) (b : Bool) (s' : Shared) : Prop := ∃ H', Inv X pins σ H' s' ∧ Q b H'
noncomputable def AP (X : Cx) (pins : List (Addr × Obj)) (σ : St) (Q : List V → Hp → Prop) (us : List Value) (s' : Shared) : Prop := ∃ vs H', Inv X pins σ H' s' ∧ Vals vs us ∧ Q vs H'
noncomputable def SP (X : Cx) (pins : List (Addr × Obj)) (D : Ends) (f : Flow) (s' : Shared) : Prop :=
  match f with
  | .next => ∃ σ' H', Inv X pins σ' H' s' ∧ D.nx σ' H'
  | .brk => ∃ σ' H', Inv X pins σ' H' s' ∧ D.bk σ' H'
  | .cont => ∃ σ' H', Inv X pins σ' H' s' ∧ D.ct σ' H'
  | .ret u => ∃ v σ' H', Inv X pins σ' H' s' ∧ RelV v u ∧ D.rt v H'
noncomputable def PE (X : Cx) (e : Expr) (t : TE) : Prop :=
  ∀ (pins : List (Addr × Obj)) (s : Shared) (σ : St) (H : Hp) (Q : VK), Inv X pins σ H s → t σ H Q → wpAny (model X.prog X.w) X.A (eval e X.env) (EP X pins σ Q) X.xe s
noncomputable def PT (X : Cx) (e : Expr) (t : TT) : Prop :=
  ∀ (pins : List (Addr × Obj)) (s : Shared) (σ : St) (H : Hp) (Q : Bool → Hp → Prop), Inv X pins σ H s → t σ H Q → wpAny (model X.prog X.w) X.A (isTrue e X.env (eval e X.env)) (TP X pins σ Q) X.xe s
noncomputable def PW (X : Cx) (e : Expr) (t : TT) : Prop :=
  ∀ (whole : Sem Value) (pins : List (Addr × Obj)) (s : Shared) (σ : St) (H : Hp) (Q : Bool → Hp → Prop), Inv X pins σ H s → t σ H Q → wpAny (model X.prog X.w) X.A (isTrue e X.env whole) (TP X pins σ Q) X.xe s
theorem PW.pt {X : Cx} {e : Expr} {t : TT} (h : PW X e t) : PT X e t := h _
noncomputable def PA (X : Cx) (es : List Expr) (t : TA) : Prop :=
  ∀ (pos : Pos) (pins : List (Addr × Obj)) (s : Shared) (σ : St) (H : Hp) (Q : List V → Hp → Prop), Inv X pins σ H s → t σ H Q → wpAny (model X.prog X.w) X.A (spliced (backTo pos (starEach es X.env))) (AP X pins σ Q) X.xe s
noncomputable def PS (X : Cx) (st : Stmt) (t : TS) : Prop :=
  ∀ (pins : List (Addr × Obj)) (s : Shared) (σ : St) (H : Hp) (D : Ends), Inv X pins σ H s → t D σ H → wpAny (model X.prog X.w) X.A (exec st X.env) (SP X pins D) X.xe s
noncomputable def PSs (X : Cx) (st : List Stmt) (t : TS) : Prop :=
  ∀ (pins : List (Addr × Obj)) (s : Shared) (σ : St) (H : Hp) (D : Ends), Inv X pins σ H s → t D σ H → wpAny (model X.prog X.w) X.A (execs st X.env) (SP X pins D) X.xe s
theorem thn {α : Type} {t : Sem α} {Q Q' : α → Shared → Prop} {M : Model} {A : Around} {E : Value → Shared → Prop} {s : Shared} (h : wpAny M A t Q E s) (hQ : ∀ a s, Q a s → Q' a s) : wpAny M A t Q' E s := wpAny_mono h hQ fun _ _ x => x
end L2
namespace L2
open PySem PySem.Spec PyProof.Rows
section
variable {X : Cx}
noncomputable def tVar (i : Nat) : TE := fun σ H Q => ∃ v, σ[i]? = some (some v) ∧ Q v H
noncomputable def tC (v : V) : TE := fun _ H Q => Q v H
theorem pe_var {i : Nat} {x : Str} {pos : Pos} (hN : X.N[i]? = some x) (hv : Vis X.env.scope x) (hd : (x == ("__debug__" : Str)) = false := by decide) (hcd : (x == ("__classdict__" : Str)) = false := by decide) : PE X (.Name x pos) (tVar i) := by
  intro pins s σ H Q I h
  obtain ⟨v, e, h⟩ := h
  obtain ⟨m, hn, hl⟩ := I.loc
  obtain ⟨u, r, l⟩ := hl i x v hN e hv
  have fin : EP X pins σ Q u s := ⟨v, H, I, r, h⟩
  rcases l with ⟨hk, hm⟩ | ⟨hk, c, hc, hcell⟩
  · exact wpAny_Name (wpAny_loadName_local I.ok.kind hk hn hm fin) hd
  · rcases hk with hk | hk
    · exact wpAny_Name (wpAny_loadName_cell I.ok.kind hk hc hcell fin) hd
    · exact wpAny_Name (wpAny_loadName_free I.ok.kind hk hc hcell fin hcd) hd
theorem pe_int {i j pos} : PE X (.Constant (.int i) j pos) (tC (.int i)) := fun _ _ _ H _ I h => wpAny_Constant_int ⟨.int i, H, I.tok _, ⟨_, rfl⟩, h⟩
theorem pe_bl {b j pos} : PE X (.Constant (.bool b) j pos) (tC (.bl b)) := fun _ _ _ H _ I h => Constant_bool ⟨.bl b, H, I, rfl, h⟩
theorem pe_non {j pos} : PE X (.Constant .none j pos) (tC .non) := fun _ _ _ H _ I h => Constant_none ⟨.non, H, I, rfl, h⟩
theorem pe_str {x j pos} : PE X (.Constant (.str x) j pos) (tC (.str x)) := fun _ _ _ H _ I h => Calls.Constant_str ⟨.str x, H, I.tok _, ⟨_, rfl⟩, h⟩
noncomputable def Gl (X : Cx) (x : Str) : Prop := X.env.kindOf x = some .globalImplicit
theorem ld_glob {E : Value → Shared → Prop} {pins : List (Addr × Obj)} {s : Shared} {σ : St} {H : Hp} {x : Str} {u : Value} {pos : Pos} {Q : Value → Shared → Prop} (I : Inv X pins σ H s) (hg : Gl X x) (hm : X.mg x = some u) (h : Q u s)
    (hd : (x == ("__debug__" : Str)) = false := by decide) : wpAny (model X.prog X.w) X.A (eval (.Name x pos) X.env) Q E s :=
  Calls.Name_function_global I.ok.kind hg (Calls.loadGlobal_global (by rw [I.ok.glob]; exact I.mod.glob.keeps I.bk) hm h) hd
theorem ld_blt {E : Value → Shared → Prop} {pins : List (Addr × Obj)} {s : Shared} {σ : St} {H : Hp} {x : Str} {u : Value} {pos : Pos} {Q : Value → Shared → Prop} (I : Inv X pins σ H s) (hg : Gl X x) (hm : X.mg x = none) (hv : bootBuiltins x = some u) (h : Q u s)
    (hn : x ≠ "__name__" := by decide) (hd : (x == ("__debug__" : Str)) = false := by decide) : wpAny (model X.prog X.w) X.A (eval (.Name x pos) X.env) Q E s := by
  obtain ⟨mb, h1, h2⟩ := I.mod.blt
  exact Calls.Name_function_global I.ok.kind hg (Calls.loadGlobal_builtin (by rw [I.ok.glob]; exact I.mod.glob.keeps I.bk) hm (by rw [I.ok.blt]; exact h1.keeps I.bk) ((h2 x hn).trans hv) h) hd
theorem pe_bltn {x : Str} {v : V} {u : Value} {pos : Pos} (hg : Gl X x) (hm : X.mg x = none) (hv : bootBuiltins x = some u) (r : RelV v u) (hn : x ≠ "__name__" := by decide) (hd : (x == ("__debug__" : Str)) = false := by decide) : PE X (.Name x pos) (tC v) :=
  fun _ _ _ H _ I h => ld_blt I hg hm hv ⟨v, H, I, r, h⟩ hn hd
variable {a b : Expr} {ta tb : TE} {pos : Pos}
variable {tA tB' : TT} {rest : List Expr}
noncomputable def tAnd (t u : TT) : TT := fun σ H Q => t σ H fun c H1 => if c = true then u σ H1 Q else Q false H1
noncomputable def tOr (t u : TT) : TT := fun σ H Q => t σ H fun c H1 => if c = true then Q true H1 else u σ H1 Q
noncomputable def tNot (t : TT) : TT := fun σ H Q => t σ H fun c H1 => Q (!c) H1
theorem pw_and1 (ha : PT X a tA) : PW X (.BoolOp .And [a] pos) tA := by
  intro wh pins s σ H Q I h
  refine isTrue_and (thn (ha pins s σ H Q I h) fun c s1 e => ?_)
  cases c with
  | true => exact isTrue_and_nil e
  | false => exact e
theorem pw_or1 (ha : PT X a tA) : PW X (.BoolOp .Or [a] pos) tA := by
  intro wh pins s σ H Q I h
  refine isTrue_or (thn (ha pins s σ H Q I h) fun c s1 e => ?_)
  cases c with
  | false => exact isTrue_or_nil e
  | true => exact e
theorem pw_and (ha : PT X a tA) (hb : PW X (.BoolOp .And (b :: rest) pos) tB') : PW X (.BoolOp .And (a :: b :: rest) pos) (tAnd tA tB') := by
  intro wh pins s σ H Q I h
  refine isTrue_and (thn (ha pins s σ H _ I h) fun c s1 ⟨H1, I1, q1⟩ => ?_)
  cases c with
  | true => exact hb wh pins s1 σ H1 Q I1 q1
  | false => exact ⟨H1, I1, q1⟩
theorem pw_or (ha : PT X a tA) (hb : PW X (.BoolOp .Or (b :: rest) pos) tB') : PW X (.BoolOp .Or (a :: b :: rest) pos) (tOr tA tB') := by
  intro wh pins s σ H Q I h
  refine isTrue_or (thn (ha pins s σ H _ I h) fun c s1 ⟨H1, I1, q1⟩ => ?_)
  cases c with
  | true => exact ⟨H1, I1, q1⟩
  | false => exact hb wh pins s1 σ H1 Q I1 q1
theorem pt_not (ha : PT X a tA) : PT X (.UnaryOp .Not a pos) (tNot tA) := by
  intro pins s σ H Q I h
  exact isTrue_not (ha pins s σ H (fun c H1 => Q (!c) H1) I h)
noncomputable def tAndV (ta tb : TE) : TE := fun σ H Q => ta σ H fun x H1 => ∃ c, x = .bl c ∧ if c = true then tb σ H1 Q else Q (.bl false) H1
theorem pe_one {op} {t : TE} (h : PE X a t) : PE X (.BoolOp op [a] pos) t := fun pins s σ H Q I hw => BoolOp_one (h pins s σ H Q I hw)
theorem pe_and (ha : PE X a ta) (hb : PE X (.BoolOp .And (b :: rest) pos) tb) : PE X (.BoolOp .And (a :: b :: rest) pos) (tAndV ta tb) := by
  intro pins s σ H Q I h
  refine BoolOp_and (thn (ha pins s σ H _ I h) fun v s1 ⟨x, H1, I1, r1, q1⟩ => ?_)
  obtain ⟨c, rfl, q1⟩ := q1
  cases r1
  refine wpAny_truthy_bool ?_
  cases c with
  | true => exact hb pins s1 σ H1 Q I1 q1
  | false => exact ⟨.bl false, H1, I1, rfl, q1⟩
end
end L2
namespace L2
open PySem PySem.Spec PyProof.Rows
noncomputable def SqL (K : PySem.W.Frag) (H : Hp) (a : Addr) (xs : List V) : Prop :=
  Rd H a (.lst xs) ∨
    ∃ (o : Obj) (its : Array Value) (n : Nat), K.lookup a = some o ∧ o.cls = .type "list" ∧ o.dict = none ∧ o.data = .seq its n ∧ its.size ≤ sizeLine ∧ Vals xs its.toList
noncomputable def SqT (K : PySem.W.Frag) (H : Hp) (a : Addr) (xs : List V) : Prop :=
  Rd H a (.tup xs) ∨
    ∃ (o : Obj) (its : Array Value) (n : Nat), K.lookup a = some o ∧ o.cls = .type "tuple" ∧ o.data = .seq its n ∧ its.size ≤ sizeLine ∧ Vals xs its.toList
noncomputable def absV : Value → Option V
  | .none => some .non
  | .bool b => some (.bl b)
  | .int i _ => some (.int i)
  | .str x _ => some (.str x)
  | .bytes b _ => some (.byt b)
  | .float b _ => some (.flt b)
  | .ref a => some (.ref a)
  | .type n => some (.ty n)
  | _ => none
theorem RelV.abs {x : V} {u : Value} (r : RelV x u) : absV u = some x := by
  cases x with
  | non => cases r; rfl
  | bl _ => cases r; rfl
  | int _ => obtain ⟨t, rfl⟩ := r; rfl
  | str _ => obtain ⟨t, rfl⟩ := r; rfl
  | byt _ => obtain ⟨t, rfl⟩ := r; rfl
  | flt _ => obtain ⟨t, rfl⟩ := r; rfl
  | ref _ => cases r; rfl
  | ty _ => cases r; rfl
theorem RelV.inj {x y : V} {u : Value} (r : RelV x u) (q : RelV y u) : x = y := Option.some.inj (r.abs.symm.trans q.abs)
theorem Vals.inj : ∀ {xs ys : List V} {us : List Value}, Vals xs us → Vals ys us → xs = ys
  | _, _, _, .nil, .nil => rfl
  | _, _, _, .cons r t, .cons r' t' => by rw [r.inj r', Vals.inj t t']
section
variable {X : Cx} {pins : List (Addr × Obj)} {σ : St} {H : Hp} {s : Shared} {a : Addr} {xs ys : List V}
theorem SqL.of {K : PySem.W.Frag} (h : H a = some (.lst xs)) : SqL K H a xs := .inl (.inl h)
theorem SqT.of {K : PySem.W.Frag} (h : H a = some (.tup xs)) : SqT K H a xs := .inl (.inl h)
theorem Inv.list (I : Inv X pins σ H s) (h : SqL X.K H a xs) : ∃ its : List Value, Vals xs its ∧ PlainL s.heap a its.toArray ∧ xs.length ≤ sizeLine := by
  rcases h with h | ⟨o, its, n, hk, hc, hd, hs, hz, r⟩
  · obtain ⟨z, its, n, r, e⟩ := h.ok I.hok
    exact ⟨its, r, ⟨_, n, e, rfl, rfl, rfl⟩, z⟩
  · refine ⟨its.toList, r, ⟨o, n, I.kIn a o hk, hc, hd, by simpa using hs⟩, ?_⟩
    have e := r.length
    simp only [Array.length_toList] at e
    omega
theorem Inv.tuple (I : Inv X pins σ H s) (h : SqT X.K H a xs) : ∃ its : List Value, Vals xs its ∧ IsTup s.heap a its.toArray ∧ xs.length ≤ sizeLine := by
  rcases h with h | ⟨o, its, n, hk, hc, hs, hz, r⟩
  · obtain ⟨z, its, r, p⟩ := h.ok I.hok
    exact ⟨its, r, p, z⟩
  · refine ⟨its.toList, r, ⟨o, I.kIn a o hk, hc, n, by simpa using hs⟩, ?_⟩
    have e := r.length
    simp only [Array.length_toList] at e
    omega
theorem Inv.list_inj (I : Inv X pins σ H s) (h : SqL X.K H a xs) (h' : SqL X.K H a ys) : xs = ys := by
  obtain ⟨its, r, ⟨o, n, e, _, _, d⟩, _⟩ := I.list h
  obtain ⟨its', r', ⟨o', n', e', _, _, d'⟩, _⟩ := I.list h'
  rw [e] at e'; cases e'
  rw [d] at d'
  injection d' with d1 _
  have : its = its' := by simpa using congrArg Array.toList d1
  subst this
  exact r.inj r'
theorem Inv.tuple_inj (I : Inv X pins σ H s) (h : SqT X.K H a xs) (h' : SqT X.K H a ys) : xs = ys := by
  obtain ⟨its, r, ⟨o, e, _, n, d⟩, _⟩ := I.tuple h
  obtain ⟨its', r', ⟨o', e', _, n', d'⟩, _⟩ := I.tuple h'
  rw [e] at e'; cases e'
  rw [d] at d'
  injection d' with d1 _
  have : its = its' := by simpa using congrArg Array.toList d1
  subst this
  exact r.inj r'
end
noncomputable abbrev Cx.wish (X : Cx) (E : Value → Shared → Prop) : Cx := { X with xe := E }
noncomputable abbrev Cx.nox (X : Cx) : Cx := X.wish fun _ _ => False
theorem Cx.Ok.wish {X : Cx} (ok : X.Ok) (E : Value → Shared → Prop) : (X.wish E).Ok :=
  ⟨ok.mod, ok.kind, ok.glob, ok.blt, ok.above, ok.inj, ok.has, ok.cab, ok.hd, ok.frames, ok.stk, ok.exf, ok.bs, ok.bsz, ok.noex, ok.exfs, ok.funs, ok.frf⟩
theorem Cx.Ok.unwish {X : Cx} {E : Value → Shared → Prop} (ok : (X.wish E).Ok) : X.Ok :=
  ⟨ok.mod, ok.kind, ok.glob, ok.blt, ok.above, ok.inj, ok.has, ok.cab, ok.hd, ok.frames, ok.stk, ok.exf, ok.bs, ok.bsz, ok.noex, ok.exfs, ok.funs, ok.frf⟩
section
variable {X : Cx} {pins : List (Addr × Obj)} {σ : St} {H : Hp} {s : Shared} {E : Value → Shared → Prop}
theorem Inv.wish (I : Inv X pins σ H s) (E : Value → Shared → Prop) : Inv (X.wish E) pins σ H s := ⟨I.ok.wish E, I.os, I.bare, I.base, I.loc, I.cell, I.free, I.freeC, I.pin, I.hok, I.len⟩
theorem Inv.unwish (I : Inv (X.wish E) pins σ H s) : Inv X pins σ H s := ⟨I.ok.unwish, I.os, I.bare, I.base, I.loc, I.cell, I.free, I.freeC, I.pin, I.hok, I.len⟩
theorem SP.unwish {D : Ends} {f : Flow} {s' : Shared} (h : SP (X.wish E) pins D f s') : SP X pins D f s' := by
  cases f with
  | next => obtain ⟨σ', H', I, q⟩ := h; exact ⟨σ', H', I.unwish, q⟩
  | brk => obtain ⟨σ', H', I, q⟩ := h; exact ⟨σ', H', I.unwish, q⟩
  | cont => obtain ⟨σ', H', I, q⟩ := h; exact ⟨σ', H', I.unwish, q⟩
  | ret u => obtain ⟨v, σ', H', I, r, q⟩ := h; exact ⟨v, σ', H', I.unwish, r, q⟩
theorem PE.nox {e : Expr} {t : TE} (h : PE X.nox e t) : PE X e t := fun pins s σ H Q I hw =>
  wpAny_mono (h pins s σ H Q (I.wish _) hw) (fun _ _ ⟨v, H', I', r, q⟩ => ⟨v, H', I'.unwish, r, q⟩) fun _ _ z => False.elim z
theorem PT.nox {e : Expr} {t : TT} (h : PT X.nox e t) : PT X e t := fun pins s σ H Q I hw =>
  wpAny_mono (h pins s σ H Q (I.wish _) hw) (fun _ _ ⟨H', I', q⟩ => ⟨H', I'.unwish, q⟩) fun _ _ z => False.elim z
theorem PSs.nox {st : List Stmt} {t : TS} (h : PSs X.nox st t) : PSs X st t := fun pins s σ H D I hw =>
  wpAny_mono (h pins s σ H D (I.wish _) hw) (fun _ _ q => q.unwish) fun _ _ z => False.elim z
end
section
variable {X : Cx} {st : Stmt} {rest : List Stmt} {t u : TS} {e : Expr} {te : TE} {pos : Pos}
noncomputable def tNext : TS := fun D σ H => D.nx σ H
noncomputable def tSeq (t u : TS) : TS := fun D σ H => t { D with nx := u D } σ H
theorem pss_nil : PSs X [] tNext := fun _ _ σ H _ I h => wpAny_execs_nil ⟨σ, H, I, h⟩
theorem pss_cons (h1 : PS X st t) (h2 : PSs X rest u) : PSs X (st :: rest) (tSeq t u) := by
  intro pins s σ H D I h
  refine wpAny_execs_cons (thn (h1 pins s σ H { D with nx := u D } I h) fun f s1 q => ?_)
  cases f with
  | next =>
    obtain ⟨σ', H', I', q⟩ := q
    exact h2 pins s1 σ' H' D I' q
  | ret v => exact q
  | brk => exact q
  | cont => exact q
theorem pss_one (h1 : PS X st t) : PSs X [st] t := by
  intro pins s σ H D I h
  refine wpAny_execs_cons (thn (h1 pins s σ H D I h) fun f s1 q => ?_)
  cases f with
  | next => exact wpAny_execs_nil q
  | ret v => exact q
  | brk => exact q
  | cont => exact q
theorem Inv.quiet {pins : List (Addr × Obj)} {σ : St} {H : Hp} {s : Shared} (I : Inv X pins σ H s) : interactive X.env = false := by simp [interactive, I.ok.kind]
noncomputable def tDrop (te : TE) : TS := fun D σ H => te σ H fun _ H1 => D.nx σ H1
theorem ps_expr (he : PE X e te) (hs : swapsWith e none pos.line X.env = pure false := by rfl) : PS X (.Expr e pos) (tDrop te) := by
  intro pins s σ H D I h
  exact wpAny_Expr_any (thn (he pins s σ H _ I h) fun v s1 ⟨x, H1, I1, r1, q1⟩ => ⟨σ, H1, I1, q1⟩) I.quiet hs
noncomputable def tRet (te : TE) : TS := fun D σ H => te σ H D.rt
theorem ps_ret (he : PE X e te) : PS X (.Return (some e) pos) (tRet te) := by
  intro pins s σ H D I h
  exact wpAny_Return_some (thn (he pins s σ H _ I h) fun v s1 ⟨x, H1, I1, r1, q1⟩ => ⟨x, σ, H1, I1, r1, q1⟩)
noncomputable def tIfS (c : TT) (t u : TS) : TS := fun D σ H => c σ H fun b H1 => if b = true then t D σ H1 else u D σ H1
theorem ps_if {c : Expr} {a b : List Stmt} {tc : TT} (hc : PT X c tc) (ha : PSs X a t) (hb : PSs X b u) : PS X (.If c a b pos) (tIfS tc t u) := by
  intro pins s σ H D I h
  refine wpAny_If (thn (hc pins s σ H _ I h) fun d s1 ⟨H1, I1, q1⟩ => ?_)
  cases d with
  | true => exact ha pins s1 σ H1 D I1 q1
  | false => exact hb pins s1 σ H1 D I1 q1
end
noncomputable abbrev TG := V → St → Hp → (St → Hp → Prop) → Prop
noncomputable abbrev TGs := List V → St → Hp → (St → Hp → Prop) → Prop
noncomputable def PG (X : Cx) (target : Expr) (t : TG) : Prop :=
  ∀ (pins : List (Addr × Obj)) (s : Shared) (σ : St) (H : Hp) (v : V) (u : Value) (Q : St → Hp → Prop), Inv X pins σ H s → RelV v u → t v σ H Q →
    wpAny (model X.prog X.w) X.A (assign target X.env u) (fun _ s' => ∃ σ' H', Inv X pins σ' H' s' ∧ Q σ' H') X.xe s
noncomputable def PGs (X : Cx) (ts : List Expr) (t : TGs) : Prop :=
  ∀ (pins : List (Addr × Obj)) (s : Shared) (σ : St) (H : Hp) (vs : List V) (us : List Value) (Q : St → Hp → Prop), Inv X pins σ H s → Vals vs us → t vs σ H Q →
    wpAny (model X.prog X.w) X.A (assignInOrder ((assignEach ts X.env).map (·.2)) us) (fun _ s' => ∃ σ' H', Inv X pins σ' H' s' ∧ Q σ' H') X.xe s
noncomputable abbrev TSet := V → V → V → Hp → (Hp → Prop) → Prop
noncomputable def PSet (X : Cx) (t : TSet) : Prop :=
  ∀ (pins : List (Addr × Obj)) (s : Shared) (σ : St) (H : Hp) (o i v : V) (ov iv u : Value) (Q : Hp → Prop), Inv X pins σ H s → RelV o ov → RelV i iv → RelV v u → t o i v H Q →
    wpAny (model X.prog X.w) X.A (setItem ov iv u) (fun _ s' => ∃ H', Inv X pins σ H' s' ∧ Q H') X.xe s
section
variable {X : Cx} {pos : Pos}
noncomputable def gName (i : Nat) : TG := fun v σ H Q => Q (σ.set i (some v)) H
theorem pg_name {i : Nat} {x : Str} (hN : X.N.Nodup) (hi : X.N[i]? = some x) (hx : Loc X.env.scope x) (hf : X.fn x = true ∨ X.env.scope.names.lookup x = some .local := by first | exact .inl rfl | exact .inr rfl | assumption) : PG X (.Name x pos) (gName i) := by
  intro pins s σ H v u Q I r h
  exact wpAny_assign_Name (store_ok I hN hi hx r (fun s' I' => ⟨_, H, I', h⟩) hf)
noncomputable def gNil : TGs := fun vs σ H Q => vs = [] ∧ Q σ H
noncomputable def gCons (t : TG) (u : TGs) : TGs := fun vs σ H Q => ∃ v r, vs = v :: r ∧ t v σ H fun σ' H' => u r σ' H' Q
theorem pgs_nil : PGs X [] gNil := by
  intro pins s σ H vs us Q I r h
  obtain ⟨e, h⟩ := h
  subst e
  cases r
  exact assignInOrder_nil ⟨σ, H, I, h⟩
theorem pgs_cons {e : Expr} {es : List Expr} {t : TG} {u : TGs} (h1 : PG X e t) (h2 : PGs X es u)
    (hs : (assignEach (e :: es) X.env).map (·.2) = assign e X.env :: (assignEach es X.env).map (·.2) := by rfl) : PGs X (e :: es) (gCons t u) := by
  intro pins s σ H vs us Q I r h
  obtain ⟨v, vr, e1, h⟩ := h
  subst e1
  cases r with
  | cons r rr =>
    rw [hs]
    refine assignInOrder_cons (thn (h1 pins s σ H _ _ _ I r h) fun _ s1 ⟨σ1, H1, I1, q1⟩ => ?_)
    exact h2 pins s1 σ1 H1 _ _ Q I1 rr q1
noncomputable def gTup (K : PySem.W.Frag) (n : Nat) (t : TGs) : TG := fun v σ H Q => ∃ a xs, v = .ref a ∧ SqT K H a xs ∧ xs.length = n ∧ t xs σ H Q
theorem pg_tup {es : List Expr} {k : Nat} {t : TGs} {n : Nat} (hc : X.calm = true) (h : PGs X es t)
    (hn : (assignEach es X.env).length = n := by rfl) (hst : (assignEach es X.env).findIdx? (·.1) = none := by rfl) : PG X (.Tuple es k pos) (gTup X.K n t) := by
  intro pins s σ H v u Q I r hw
  obtain ⟨a, xs, e1, hq, hl, hw⟩ := hw
  subst e1
  cases r
  obtain ⟨its, rv, ht, hz⟩ := I.tuple hq
  refine assign_Tuple_tuple (I.ok.hd hc) ht (by simp [hn, ← hl, rv.length]) hst fun h' hx => ?_
  have I1 : Inv X pins σ H { s with heap := h' } := I.kept (t' := s.toks) fun b o e => hx b o (Nat.ne_of_lt (Heap.lt_size e)) e
  exact h pins _ σ H xs _ Q I1 (by simpa using rv) hw
noncomputable def gSub (to ti : TE) (t : TSet) : TG := fun v σ H Q => to σ H fun o H1 => ti σ H1 fun i H2 => t o i v H2 fun H3 => Q σ H3
theorem pg_sub {o i : Expr} {to ti : TE} {t : TSet} (ho : PE X o to) (hi : PE X i ti) (hs : PSet X t)
    (ha : ∀ v, assign (.Subscript o i pos) X.env v = (do
      let ov ← holding [v] (eval o X.env)
      let iv ← holding [v, ov] (eval i X.env)
      standAt pos
      holding [v, ov, iv] (setItem ov iv v)
      release [v, ov, iv] []) := by intro _; rfl) : PG X (.Subscript o i pos) (gSub to ti t) := by
  intro pins s σ H v u Q I r h
  rw [ha]
  refine wpAny_bind (wpAny_holding (thn (ho pins s σ H _ I h) fun ov s1 ⟨x, H1, I1, r1, q1⟩ => ?_))
  refine wpAny_bind (wpAny_holding (thn (hi pins s1 σ H1 _ I1 q1) fun iv s2 ⟨y, H2, I2, r2, q2⟩ => ?_))
  refine wpAny_bind (wpAny_standAt (wpAny_bind (wpAny_holding (thn (hs pins s2 σ H2 x y v ov iv u _ I2 r1 r2 r q2) fun _ s3 ⟨H3, I3, q3⟩ => ?_))))
  exact wpAny_release ⟨σ, H3, I3, q3⟩
noncomputable def tAsg (te : TE) (g : TG) : TS := fun D σ H => te σ H fun x H1 => g x σ H1 D.nx
theorem ps_asg {tg e : Expr} {te : TE} {g : TG} (he : PE X e te) (hg : PG X tg g) (hs : swapsWithSole [tg] e pos.line X.env = pure false := by rfl) (hw : swappedStores [tg] e X.env = pure none := by rfl)
    (h1 : (assignEach [tg] X.env).map (·.2) = [assign tg X.env] := by rfl) : PS X (.Assign [tg] e pos) (tAsg te g) := by
  intro pins s σ H D I h
  refine wpAny_Assign_stores (thn (he pins s σ H _ I h) fun v s1 ⟨x, H1, I1, r1, q1⟩ => ?_) hs hw
  rw [h1]
  exact thn (hg pins s1 σ H1 x v _ I1 r1 q1) fun _ s2 q => q
theorem ps_set {i : Nat} {x : Str} {e : Expr} {te : TE} {pos' : Pos} (hN : X.N.Nodup) (hi : X.N[i]? = some x) (hx : Loc X.env.scope x) (he : PE X e te) (hs : swapsWith e (some (.Name x pos')) pos.line X.env = pure false := by rfl) (hf : X.fn x = true ∨ X.env.scope.names.lookup x = some .local := by first | exact .inl rfl | exact .inr rfl | assumption) :
    PS X (.Assign [.Name x pos'] e pos) (tAsg te (gName i)) := by
  intro pins s σ H D I h
  refine wpAny_Assign_Name (thn (he pins s σ H _ I h) fun v s1 ⟨y, H1, I1, r1, q1⟩ => ?_) hs
  exact store_ok I1 hN hi hx r1 (fun s2 I2 => ⟨_, H1, I2, q1⟩) hf
end
section
variable {X : Cx} {pos : Pos}
noncomputable def tWhile (c : TT) (tb : TS) : TS := fun D σ H => ∃ W : Nat → St → Hp → Prop, (∃ m, W m σ H) ∧ ∀ m σ H, W m σ H →
  c σ H fun b H1 => if b = true then ∃ N : St → Hp → Prop, (∀ σ' H', N σ' H' → ∃ m', m' < m ∧ W m' σ' H') ∧ tb { D with nx := N, ct := N, bk := D.nx } σ H1 else D.nx σ H1
theorem ps_while {c : Expr} {body : List Stmt} {tc : TT} {tb : TS} (hp : PassesOwn (model X.prog X.w) X.A X.env X.xe) (hc : PT X c tc) (hb : PSs X body tb) : PS X (.While c body [] pos) (tWhile tc tb) := by
  intro pins s σ H D I h
  obtain ⟨W, ⟨m0, w0⟩, turn⟩ := h
  refine wpAny_While (codeAny_whileLoop (fun n s' => ∃ σ' H', Inv X pins σ' H' s' ∧ W n σ' H') ?_ m0 ⟨σ, H, I, w0⟩)
  rintro n s1 ⟨σ1, H1, I1, w1⟩
  refine wpAny_passesOwn hp (thn (hc pins s1 σ1 H1 _ I1 (turn n σ1 H1 w1)) fun b s2 ⟨H2, I2, q2⟩ => ?_)
  cases b with
  | true =>
    obtain ⟨N, hN, q2⟩ := q2
    rw [if_pos rfl]
    refine wpAny_passesOwn hp (thn (hb pins s2 σ1 H2 _ I2 q2) fun f s3 q3 => ?_)
    cases f with
    | next =>
      obtain ⟨σ3, H3, I3, n3⟩ := q3
      obtain ⟨m', hm, w3⟩ := hN σ3 H3 n3
      exact ⟨m', hm, σ3, H3, I3, w3⟩
    | cont =>
      obtain ⟨σ3, H3, I3, n3⟩ := q3
      obtain ⟨m', hm, w3⟩ := hN σ3 H3 n3
      exact ⟨m', hm, σ3, H3, I3, w3⟩
    | brk => exact q3
    | ret v => exact q3
  | false =>
    rw [if_neg Bool.false_ne_true]
    exact wpAny_execs_nil ⟨σ1, H2, I2, q2⟩
end
structure It where
  go : Nat → Hp → Prop
  yld : Nat → Hp → V → Hp → Prop
  stop : Nat → Hp → Prop
noncomputable def FpOk (X : Cx) (pins : List (Addr × Obj)) (H : Hp) (b : Addr) : Prop :=
  H b = none ∧ b ≠ X.env.locals ∧ b ∉ X.fs ∧ (b ∈ X.ex ∨ X.s₀.heap.objs.size ≤ b) ∧ (∀ x c, X.env.cells.lookup x = some c → c ≠ b) ∧ ∀ p ∈ X.pn ++ pins, p.1 ≠ b
theorem Inv.fpOk {X : Cx} {pins : List (Addr × Obj)} {σ : St} {H H' : Hp} {s : Shared} {b : Addr} (I : Inv X pins σ H s) (hb : s.heap.objs.size ≤ b) (hn : H' b = none) : FpOk X pins H' b := by
  refine ⟨hn, Nat.ne_of_gt (Nat.lt_of_lt_of_le I.lt hb), I.nofs hb, .inr (Nat.le_trans I.sz hb), fun x c e z => ?_, fun p hp z => ?_⟩
  · obtain ⟨v, q⟩ := I.cell x c e
    exact absurd (Nat.lt_of_lt_of_le q.lt (by rw [z]; exact hb)) (Nat.lt_irrefl _)
  · exact absurd (Nat.lt_of_lt_of_le (Heap.lt_size (I.pin p hp).1) (by rw [z]; exact hb)) (Nat.lt_irrefl _)
structure Turn (P : Program) (w : World) (K : PySem.W.Frag) (tg : Expr) (J : It) (fp : List Addr) (it : Addr) (tn : Nat → Heap → Prop) : Prop where
  mem : it ∈ fp
  obj : ∀ i h, tn i h → ∀ b ∈ fp, ∃ o, h.get? b = some o ∧ ∀ v, o.data ≠ .cell v
  keep : ∀ i h h', tn i h → (∀ b ∈ fp, ∀ o, h.get? b = some o → h'.get? b = some o) → tn i h'
  item : ∀ (X : Cx), X.prog = P → X.w = w → X.K = K → X.calm = true → ∀ (i : Nat) (pins : List (Addr × Obj)) (s : Shared) (σ : St) (H : Hp) (E : Value → Shared → Prop), Inv X pins σ H s → (∀ b ∈ fp, FpOk X pins H b) → tn i s.heap → J.go i H →
    wpAny (model P w) X.A (pyNext (.ref it)) (fun r s1 => ∃ u, r = some u ∧
      wpAny (model P w) X.A (letOwnedTupleGo tg (.ref it) u) (fun _ s2 => ∃ x H', Inv X pins σ H' s2 ∧ RelV x u ∧ J.yld i H x H' ∧ tn (i + 1) s2.heap ∧ ∀ b ∈ fp, H' b = none) E s1) E s
  done : ∀ (X : Cx), X.prog = P → X.w = w → X.K = K → X.calm = true → ∀ (i : Nat) (pins : List (Addr × Obj)) (s : Shared) (σ : St) (H : Hp) (E : Value → Shared → Prop), Inv X pins σ H s → (∀ b ∈ fp, FpOk X pins H b) → tn i s.heap → J.stop i H →
    wpAny (model P w) X.A (pyNext (.ref it)) (fun r s1 => r = none ∧ Inv X pins σ H s1) E s
  self : ∀ (A : Around) (i : Nat) (s : Shared) (Q : Value → Shared → Prop) (E : Value → Shared → Prop), tn i s.heap → Q (.ref it) s → wpAny (model P w) A (pyIter (.ref it)) Q E s
noncomputable abbrev TI := St → Hp → (It → Hp → Prop) → Prop
noncomputable def PIE (X : Cx) (pins : List (Addr × Obj)) (σ : St) (tg : Expr) (R : It → Hp → Prop) (itv : Value) (s2 : Shared) : Prop :=
  ∃ (it : Addr) (fp : List Addr) (tn : Nat → Heap → Prop) (J : It) (H' : Hp), itv = .ref it ∧ Inv X pins σ H' s2 ∧ Turn X.prog X.w X.K tg J fp it tn ∧ tn 0 s2.heap ∧ (∀ b ∈ fp, FpOk X pins H' b) ∧ R J H'
noncomputable def PI (X : Cx) (tg iter : Expr) (wi : TI) : Prop :=
  ∀ (pins : List (Addr × Obj)) (s : Shared) (σ : St) (H : Hp) (R : It → Hp → Prop), Inv X pins σ H s → wi σ H R →
    wpAny (model X.prog X.w) X.A (eval iter X.env) (fun v s1 => wpAny (model X.prog X.w) X.A (pyIter v) (PIE X pins σ tg R) X.xe s1) X.xe s
theorem go_of {M : Model} {A : Around} {E : Value → Shared → Prop} {s : Shared} {tg : Expr} {it : Addr} {u : Value} {o : Obj} {n : String} {vs : Array Value} {Q : Unit → Shared → Prop} (ho : s.heap.get? it = some o) (hc : o.cls = .type n) (hd : o.data = .fields vs)
    (hn : ["enumerate", "zip", "dict_itemiterator", "dict_reverseitemiterator", "odict_iterator", "itertools.zip_longest", "itertools.pairwise"].contains n = false) (hQ : Q () s) : wpAny M A (letOwnedTupleGo tg (.ref it) u) Q E s := by
  unfold letOwnedTupleGo
  cases tg <;> first
    | exact wpAny_pure hQ
    | (cases u <;> first
        | exact wpAny_pure hQ
        | (refine wpAny_bind (wpAny_load ho ?_)
           rw [hc, hd]
           show wpAny M A (if (["enumerate", "zip", "dict_itemiterator", "dict_reverseitemiterator", "odict_iterator", "itertools.zip_longest", "itertools.pairwise"].contains n && vs[0]? == some (rawInt _)) = true then _ else _) Q E s
           rw [if_neg (by intro h; rw [hn, Bool.false_and] at h; cases h)]
           exact wpAny_pure hQ))
noncomputable def Itl (K : PySem.W.Frag) (a : Addr) : It :=
  ⟨fun i H => ∃ xs x, SqL K H a xs ∧ xs[i]? = some x, fun i H x H' => H' = H ∧ ∀ xs, SqL K H a xs → xs[i]? = some x, fun i H => ∃ xs, SqL K H a xs ∧ xs.length ≤ i⟩
noncomputable def Itt (K : PySem.W.Frag) (a : Addr) : It :=
  ⟨fun i H => ∃ xs x, SqT K H a xs ∧ xs[i]? = some x, fun i H x H' => H' = H ∧ ∀ xs, SqT K H a xs → xs[i]? = some x, fun i H => ∃ xs, SqT K H a xs ∧ xs.length ≤ i⟩
noncomputable def Itr (lo : Int) (n : Nat) : It := ⟨fun i _ => i < n, fun i H x H' => H' = H ∧ x = .int (lo + i), fun i _ => n ≤ i⟩
theorem turn_list {P : Program} {w : World} {K : PySem.W.Frag} {tg : Expr} (a it : Addr) : Turn P w K tg (Itl K a) [it] it (fun i h => h.IsListIter it a i) where
  mem := by simp
  obj := fun i h st b hb => by
    have e : b = it := by simpa using hb
    subst e
    obtain ⟨o, e, c, d⟩ := st
    exact ⟨o, e, fun v z => by rw [d] at z; cases z⟩
  keep := fun i h h' st k => st.at fun o e => k it (by simp) o e
  item := by
    intro X hP hw hK hc i pins s σ H E I hf st hg
    subst hP hw hK
    obtain ⟨xs, x, hq, hx⟩ := hg
    obtain ⟨its, rv, p, hz⟩ := I.list hq
    obtain ⟨u, hu, ru⟩ := rv.get hx
    obtain ⟨f0, f1, f2, f3, f4, f5⟩ := hf it (by simp)
    refine wpAny_pyNext_list_item st p.isList (x := u) (by simpa using hu) fun h' st' sb => ?_
    have I1 : Inv X pins σ H { s with heap := h' } := I.turned (t' := s.toks) (fun b o hb e => (sb.2 b hb).trans e) f0 f1 f3 f4 f5
    obtain ⟨o, e, c, d⟩ := id st'
    exact ⟨u, rfl, go_of (s := { s with heap := h' }) e c d (by decide) ⟨x, H, I1, ru, ⟨rfl, fun ys hy => by rw [I.list_inj hy hq]; exact hx⟩, st', fun b hb => (hf b hb).1⟩⟩
  done := by
    intro X hP hw hK hc i pins s σ H E I hf st hg
    subst hP hw hK
    obtain ⟨xs, hq, hx⟩ := hg
    obtain ⟨its, rv, p, hz⟩ := I.list hq
    obtain ⟨f0, f1, f2, f3, f4, f5⟩ := hf it (by simp)
    have hl := rv.length
    exact wpAny_pyNext_list_end (I.ok.hd hc) st p.isList (by simp; omega) fun h' eb => ⟨rfl, I.turned (t' := s.toks) (fun b o hb e => eb b o hb e) f0 f1 f3 f4 f5⟩
  self := fun _ _ _ _ _ st h => wpAny_pyIter_listiter st h
theorem turn_tuple {P : Program} {w : World} {K : PySem.W.Frag} {tg : Expr} (a it : Addr) : Turn P w K tg (Itt K a) [it] it (fun i h => h.IsTupleIter it a i) where
  mem := by simp
  obj := fun i h st b hb => by
    have e : b = it := by simpa using hb
    subst e
    obtain ⟨o, e, c, d⟩ := st
    exact ⟨o, e, fun v z => by rw [d] at z; cases z⟩
  keep := fun i h h' st k => st.at fun o e => k it (by simp) o e
  item := by
    intro X hP hw hK hc i pins s σ H E I hf st hg
    subst hP hw hK
    obtain ⟨xs, x, hq, hx⟩ := hg
    obtain ⟨its, rv, p, hz⟩ := I.tuple hq
    obtain ⟨u, hu, ru⟩ := rv.get hx
    obtain ⟨f0, f1, f2, f3, f4, f5⟩ := hf it (by simp)
    refine wpAny_pyNext_tuple_item st (show s.heap.IsTuple a its.toArray from p) (x := u) (by simpa using hu) fun h' st' sb => ?_
    have I1 : Inv X pins σ H { s with heap := h' } := I.turned (t' := s.toks) (fun b o hb e => (sb.2 b hb).trans e) f0 f1 f3 f4 f5
    obtain ⟨o, e, c, d⟩ := id st'
    exact ⟨u, rfl, go_of (s := { s with heap := h' }) e c d (by decide) ⟨x, H, I1, ru, ⟨rfl, fun ys hy => by rw [I.tuple_inj hy hq]; exact hx⟩, st', fun b hb => (hf b hb).1⟩⟩
  done := by
    intro X hP hw hK hc i pins s σ H E I hf st hg
    subst hP hw hK
    obtain ⟨xs, hq, hx⟩ := hg
    obtain ⟨its, rv, p, hz⟩ := I.tuple hq
    obtain ⟨f0, f1, f2, f3, f4, f5⟩ := hf it (by simp)
    have hl := rv.length
    exact wpAny_pyNext_tuple_end (I.ok.hd hc) st (show s.heap.IsTuple a its.toArray from p) (by simp; omega) fun h' eb => ⟨rfl, I.turned (t' := s.toks) (fun b o hb e => eb b o hb e) f0 f1 f3 f4 f5⟩
  self := fun _ _ _ _ _ st h => wpAny_pyIter_tupleiter st h
theorem turn_range {P : Program} {w : World} {K : PySem.W.Frag} {tg : Expr} (it : Addr) (lo : Int) (n : Nat) : Turn P w K tg (Itr lo n) [it] it (fun i h => IsRangeIter h it (lo + (i : Nat) * 1) ((n : Int) - (i : Nat)) 1) where
  mem := by simp
  obj := fun i h st b hb => by
    have e : b = it := by simpa using hb
    subst e
    exact ⟨_, st, fun v z => by
      have z' : Data.fields _ = Data.cell v := z
      cases z'⟩
  keep := fun i h h' st k => k it (by simp) _ st
  item := by
    intro X hP hw hK hc i pins s σ H E I hf st hg
    subst hP hw hK
    obtain ⟨f0, f1, f2, f3, f4, f5⟩ := hf it (by simp)
    have W := Walks.range (prog := X.prog) (w := X.w) (I.ok.hd hc) it lo 1 n
    refine W.item i s _ _ hg st fun v h' tk hv st' kk => ?_
    obtain ⟨t, rfl⟩ := hv
    have I1 : Inv X pins σ H { s with heap := h', toks := tk } := I.turned (fun b o hb e => kk b o (by simpa using hb) e) f0 f1 f3 f4 f5
    refine ⟨_, rfl, go_of (s := { s with heap := h', toks := tk }) (n := "range_iterator") st' rfl rfl (by decide) ⟨.int (lo + i), H, I1, ⟨t, ?_⟩, ⟨rfl, rfl⟩, st', fun b hb => (hf b hb).1⟩⟩
    rw [Int.mul_one]
  done := by
    intro X hP hw hK hc i pins s σ H E I hf st hg
    subst hP hw hK
    obtain ⟨f0, f1, f2, f3, f4, f5⟩ := hf it (by simp)
    exact wpAny_pyNext_range_end (I.ok.hd hc) st (by have : n ≤ i := hg; omega) fun h' eb => ⟨rfl, I.turned (t' := s.toks) (fun b o hb e => eb b o hb e) f0 f1 f3 f4 f5⟩
  self := fun _ _ _ _ _ st h => wpAny_pyIter_rangeiter st h
end L2
namespace L2
open PySem PySem.Spec PyProof.Rows
section
variable {X : Cx} {tg : Expr}
noncomputable def iList (K : PySem.W.Frag) (tl : TE) : TI := fun σ H R => tl σ H fun x H1 => ∃ a, x = .ref a ∧ (∃ xs, SqL K H1 a xs) ∧ R (Itl K a) H1
noncomputable def iTup (K : PySem.W.Frag) (tl : TE) : TI := fun σ H R => tl σ H fun x H1 => ∃ a, x = .ref a ∧ (∃ xs, SqT K H1 a xs) ∧ R (Itt K a) H1
theorem pi_list {l : Expr} {tl : TE} (hl : PE X l tl) : PI X tg l (iList X.K tl) := by
  intro pins s σ H R I h
  refine thn (hl pins s σ H _ I h) fun v s1 ⟨x, H1, I1, r1, q1⟩ => ?_
  obtain ⟨a, e, ⟨xs, hq⟩, q⟩ := q1
  subst e
  cases r1
  obtain ⟨its, rv, p, hz⟩ := I1.list hq
  refine wpAny_pyIter_list p.isList ?_
  refine ⟨s1.heap.objs.size, [s1.heap.objs.size], _, _, H1, rfl, I1.kept (t' := s1.toks) fun b o e => Heap.get?_push_of_some _ e, turn_list a _, ⟨_, Heap.get?_push_size _ rfl, rfl, rfl⟩, fun b hb => ?_, q⟩
  have e : b = s1.heap.objs.size := by simpa using hb
  subst e
  exact I1.fpOk (Nat.le_refl _) (I1.hok.fresh (Nat.le_refl _))
theorem pi_tup {l : Expr} {tl : TE} (hl : PE X l tl) : PI X tg l (iTup X.K tl) := by
  intro pins s σ H R I h
  refine thn (hl pins s σ H _ I h) fun v s1 ⟨x, H1, I1, r1, q1⟩ => ?_
  obtain ⟨a, e, ⟨xs, hq⟩, q⟩ := q1
  subst e
  cases r1
  obtain ⟨its, rv, p, hz⟩ := I1.tuple hq
  refine wpAny_pyIter_tuple (show s1.heap.IsTuple a its.toArray from p) ?_
  refine ⟨s1.heap.objs.size, [s1.heap.objs.size], _, _, H1, rfl, I1.kept (t' := s1.toks) fun b o e => Heap.get?_push_of_some _ e, turn_tuple a _, ⟨_, Heap.get?_push_size _ rfl, rfl, rfl⟩, fun b hb => ?_, q⟩
  have e : b = s1.heap.objs.size := by simpa using hb
  subst e
  exact I1.fpOk (Nat.le_refl _) (I1.hok.fresh (Nat.le_refl _))
theorem range_it {pins : List (Addr × Obj)} {σ : St} {H : Hp} {s : Shared} {R : It → Hp → Prop} {E : Value → Shared → Prop} {lo hi : Int} {t u v : Tok} {tk : Nat} (I : Inv X pins σ H s) (h1 : -(2 ^ 62) ≤ lo) (h2 : lo < 2 ^ 62) (h3 : -(2 ^ 62) ≤ hi) (h4 : hi < 2 ^ 62)
    (q : R (Itr lo (hi - lo).toNat) H) : wpAny (model X.prog X.w) X.A (pyIter (.ref s.heap.objs.size)) (PIE X pins σ tg R) E { s with heap := s.heap.push { cls := .type "range", data := .fields #[.int lo t, .int hi u, .int 1 v] }, toks := tk } := by
  refine wpAny_pyIter_range (IsRange.new ..) (small_one h1 h2 h3 h4) ?_
  have I1 : Inv X pins σ H { s with heap := s.heap.push { cls := .type "range", data := .fields #[.int lo t, .int hi u, .int 1 v] }, toks := tk } := I.kept fun b o e => Heap.get?_push_of_some _ e
  refine ⟨(s.heap.push { cls := .type "range", data := .fields #[.int lo t, .int hi u, .int 1 v] }).objs.size, [(s.heap.push { cls := .type "range", data := .fields #[.int lo t, .int hi u, .int 1 v] }).objs.size], _, _, H, rfl,
    I1.kept (t' := tk) fun b o e => Heap.get?_push_of_some _ e, turn_range _ lo (hi - lo).toNat, ?_, fun b hb => ?_, q⟩
  · have e1 : lo + ((0 : Nat) : Int) * 1 = lo := by simp
    have e2 : (((hi - lo).toNat : Nat) : Int) - ((0 : Nat) : Int) = Builtin.Range.rangeSize lo hi 1 := by rw [rangeSize_one]; split <;> omega
    show IsRangeIter _ _ (lo + ((0 : Nat) : Int) * 1) ((((hi - lo).toNat : Nat) : Int) - ((0 : Nat) : Int)) 1
    rw [e1, e2]
    exact Heap.get?_push_size _ rfl
  · have e : b = (s.heap.push { cls := .type "range", data := .fields #[.int lo t, .int hi u, .int 1 v] }).objs.size := by simpa using hb
    subst e
    exact I1.fpOk (Nat.le_refl _) (I1.hok.fresh (Nat.le_refl _))
noncomputable def iRng1 (ta : TA) : TI := fun σ H R => ta σ H fun vs H1 => ∃ j : Int, vs = [.int j] ∧ -(2 ^ 62) ≤ j ∧ j < 2 ^ 62 ∧ R (Itr 0 j.toNat) H1
noncomputable def iRng2 (ta : TA) : TI := fun σ H R => ta σ H fun vs H1 => ∃ i j : Int, vs = [.int i, .int j] ∧ (-(2 ^ 62) ≤ i ∧ i < 2 ^ 62 ∧ -(2 ^ 62) ≤ j ∧ j < 2 ^ 62) ∧ R (Itr i (j - i).toNat) H1
theorem pi_range1 {a : Expr} {ta : TA} {p pos : Pos} (hg : Gl X "range") (hm : X.mg "range" = none) (ha : PA X [a] ta) (hs : starEach [a] X.env = [(false, eval a X.env)] := by rfl) : PI X tg (.Call (.Name "range" p) [a] [] pos) (iRng1 ta) := by
  intro pins s σ H R I h
  refine Call_ (ld_blt I hg hm boot_range (PyProof.Rows.callWith_type1 (thn (ha pos pins s σ H _ I h) fun us s1 ⟨vs, H1, I1, r1, q1⟩ => ?_) hs rfl))
  obtain ⟨j, e, q1, q2, q⟩ := q1
  subst e
  cases r1 with
  | cons r rr =>
    cases rr
    obtain ⟨t, rfl⟩ := r
    exact call_range_1 (range_it I1 (by omega) (by omega) q1 q2 (by simpa using q))
theorem pi_range2 {a b : Expr} {ta : TA} {p pos : Pos} (hg : Gl X "range") (hm : X.mg "range" = none) (ha : PA X [a, b] ta) (hs : starEach [a, b] X.env = [(false, eval a X.env), (false, eval b X.env)] := by rfl) (hs2 : starEach [b] X.env = [(false, eval b X.env)] := by rfl) :
    PI X tg (.Call (.Name "range" p) [a, b] [] pos) (iRng2 ta) := by
  intro pins s σ H R I h
  refine Call_ (ld_blt I hg hm boot_range (PyProof.Rows.callWith_type1 (thn (ha pos pins s σ H _ I h) fun us s1 ⟨vs, H1, I1, r1, q1⟩ => ?_) (by rw [hs, hs2]) (by rw [hs2]; rfl)))
  obtain ⟨i, j, e, ⟨q1, q2, q3, q4⟩, q⟩ := q1
  subst e
  cases r1 with
  | cons r rr =>
    cases rr with
    | cons r' rr =>
      cases rr
      obtain ⟨t, rfl⟩ := r
      obtain ⟨t', rfl⟩ := r'
      exact call_range_2 (range_it I1 q1 q2 q3 q4 q)
noncomputable def tFor (wi : TI) (g : TG) (tb : TS) : TS := fun D σ H => wi σ H fun J H1 => ∃ W : Nat → Nat → St → Hp → Prop, (∃ m, W 0 m σ H1) ∧ ∀ i m σ H, W i m σ H →
  (J.stop i H ∧ D.nx σ H) ∨ (J.go i H ∧ ∃ N : St → Hp → Prop, (∀ σ' H', N σ' H' → ∃ m', m' < m ∧ W (i + 1) m' σ' H') ∧ ∀ x H', J.yld i H x H' → g x σ H' fun σ2 H2 => tb { D with nx := N, ct := N, bk := D.nx } σ2 H2)
noncomputable def pinsAt (fp : List Addr) (h : Heap) : List (Addr × Obj) := fp.filterMap fun b => (h.get? b).map fun o => (b, o)
theorem mem_pinsAt {fp : List Addr} {h : Heap} {b : Addr} {o : Obj} (hb : b ∈ fp) (e : h.get? b = some o) : (b, o) ∈ pinsAt fp h := List.mem_filterMap.mpr ⟨b, hb, by rw [e]; rfl⟩
theorem of_pinsAt {fp : List Addr} {h : Heap} {p : Addr × Obj} (hp : p ∈ pinsAt fp h) : p.1 ∈ fp ∧ h.get? p.1 = some p.2 := by
  obtain ⟨b, hb, e⟩ := List.mem_filterMap.mp hp
  cases q : h.get? b with
  | none => rw [q] at e; cases e
  | some o =>
    rw [q] at e
    have e' : (b, o) = p := Option.some.inj e
    subst e'
    exact ⟨hb, q⟩
theorem Inv.pinned {pins : List (Addr × Obj)} {σ : St} {H : Hp} {s : Shared} {fp : List Addr} (I : Inv X pins σ H s) (hf : ∀ b ∈ fp, FpOk X pins H b) (ho : ∀ b ∈ fp, ∃ o, s.heap.get? b = some o ∧ ∀ v, o.data ≠ .cell v) : Inv X (pins ++ pinsAt fp s.heap) σ H s :=
  I.pins_of fun p hp => (List.mem_append.mp hp).elim (fun z => I.pin p (List.mem_append_right _ z)) fun z => by
    obtain ⟨hb, e⟩ := of_pinsAt z
    obtain ⟨f0, f1, f2, _⟩ := hf p.1 hb
    obtain ⟨o, e', d⟩ := ho p.1 hb
    rw [e] at e'; cases e'
    exact ⟨e, f0, f1, f2, d⟩
theorem Inv.unpinned {pins pl : List (Addr × Obj)} {σ : St} {H : Hp} {s : Shared} (I : Inv X (pins ++ pl) σ H s) : Inv X pins σ H s := I.pins_of fun p hp => I.pin p (List.mem_append_right _ (List.mem_append_left _ hp))
theorem ps_for {iter : Expr} {body : List Stmt} {wi : TI} {g : TG} {tb : TS} {pos : Pos} (hp : PassesOwn (model X.prog X.w) X.A X.env X.xe) (hc : X.calm = true) (hi : PI X tg iter wi) (hg : PG X tg g) (hb : PSs X body tb)
    (hs : ∀ x, foldedSetIterable iter X.env x = pure x := by intro _; rfl) : PS X (.For tg iter body [] pos) (tFor wi g tb) := by
  intro pins s σ H D I h
  refine wpAny_For (thn (hi pins s σ H _ I h) fun v s1 h1 => thn h1 fun itv s2 h2 => ?_) hs
  obtain ⟨it, fp, tn, J, H2, e, I2, T, st2, f2, W, ⟨m0, w0⟩, turn⟩ := h2
  subst e
  -- what stays true of the iterator's objects through the loop
  have stat : ∀ {H' : Hp}, (∀ b ∈ fp, H' b = none) → ∀ b ∈ fp, FpOk X pins H' b := fun hn b hb => ⟨hn b hb, (f2 b hb).2⟩
  refine codeAny_forLoop_any (fun n s' => ∃ i σ' H', Inv X pins σ' H' s' ∧ tn i s'.heap ∧ (∀ b ∈ fp, H' b = none) ∧ W i n σ' H') ?_ m0 ⟨0, σ, H2, I2, st2, fun b hb => (f2 b hb).1, w0⟩
  rintro n s3 ⟨i, σ3, H3, I3, st3, fr3, w3⟩
  rcases turn i n σ3 H3 w3 with ⟨stop, qn⟩ | ⟨go, N, hN, step⟩
  · refine wpAny_passesOwn hp (thn (T.done X rfl rfl rfl hc i pins s3 σ3 H3 X.xe I3 (stat fr3) st3 stop) fun r s4 ⟨hr, I4⟩ => ?_)
    subst hr
    exact wpAny_execs_nil ⟨σ3, H3, I4, qn⟩
  · refine wpAny_passesOwn hp (thn (T.item X rfl rfl rfl hc i pins s3 σ3 H3 X.xe I3 (stat fr3) st3 go) fun r s4 ⟨u, hr, h4⟩ => ?_)
    subst hr
    refine wpAny_passesOwn hp (thn h4 fun _ s5 ⟨x, H5, I5, r5, y5, st5, fr5⟩ => ?_)
    have I5' := I5.pinned (stat fr5) (T.obj _ _ st5)
    refine wpAny_passesOwn hp (thn (hg _ s5 σ3 H5 x u _ I5' r5 (step x H5 y5)) fun _ s6 ⟨σ6, H6, I6, q6⟩ => ?_)
    refine wpAny_passesOwn hp (thn (hb _ s6 σ6 H6 _ I6 q6) fun f s7 q7 => ?_)
    have again : ∀ {σ7 : St} {H7 : Hp}, Inv X (pins ++ pinsAt fp s5.heap) σ7 H7 s7 → N σ7 H7 → ∃ m, m < n ∧ ∃ i σ' H', Inv X pins σ' H' s7 ∧ tn i s7.heap ∧ (∀ b ∈ fp, H' b = none) ∧ W i m σ' H' := fun {σ7 H7} I7 n7 => by
      obtain ⟨m', hm, w7⟩ := hN σ7 H7 n7
      refine ⟨m', hm, i + 1, σ7, H7, I7.unpinned, T.keep _ _ _ st5 fun b hb o e => (I7.pin (b, o) (List.mem_append_right _ (List.mem_append_right _ (mem_pinsAt hb e)))).1, fun b hb => ?_, w7⟩
      obtain ⟨o, e, d⟩ := T.obj _ _ st5 b hb
      exact (I7.pin (b, o) (List.mem_append_right _ (List.mem_append_right _ (mem_pinsAt hb e)))).2.1
    cases f with
    | next => obtain ⟨σ7, H7, I7, n7⟩ := q7; exact again I7 n7
    | cont => obtain ⟨σ7, H7, I7, n7⟩ := q7; exact again I7 n7
    | brk => obtain ⟨σ7, H7, I7, q7⟩ := q7; exact ⟨σ7, H7, I7.unpinned, q7⟩
    | ret v => obtain ⟨x7, σ7, H7, I7, r7, q7⟩ := q7; exact ⟨x7, σ7, H7, I7.unpinned, r7, q7⟩
end
theorem for_list {K : PySem.W.Frag} {a : Addr} {xs : List V} {g : TG} {tb : TS} {D : Ends} {σ : St} {H : Hp} (Pv : Nat → St → Hp → Prop) (h0 : Pv 0 σ H) (hl : ∀ i σ H, i ≤ xs.length → Pv i σ H → SqL K H a xs)
    (hs : ∀ i x σ H, xs[i]? = some x → Pv i σ H → g x σ H fun σ2 H2 => tb { D with nx := Pv (i + 1), ct := Pv (i + 1), bk := D.nx } σ2 H2) (hd : ∀ σ H, Pv xs.length σ H → D.nx σ H) :
    ∃ W : Nat → Nat → St → Hp → Prop, (∃ m, W 0 m σ H) ∧ ∀ i m σ H, W i m σ H →
      ((Itl K a).stop i H ∧ D.nx σ H) ∨ ((Itl K a).go i H ∧ ∃ N : St → Hp → Prop, (∀ σ' H', N σ' H' → ∃ m', m' < m ∧ W (i + 1) m' σ' H') ∧ ∀ x H', (Itl K a).yld i H x H' → g x σ H' fun σ2 H2 => tb { D with nx := N, ct := N, bk := D.nx } σ2 H2) := by
  refine ⟨fun i m σ H => m = xs.length - i ∧ i ≤ xs.length ∧ Pv i σ H, ⟨xs.length, by simp, Nat.zero_le _, h0⟩, ?_⟩
  rintro i m σ H ⟨rfl, hi, p⟩
  have q := hl i σ H hi p
  by_cases hlt : i < xs.length
  · refine .inr ⟨⟨xs, xs[i], q, by simp [hlt]⟩, Pv (i + 1), fun σ' H' p' => ⟨xs.length - (i + 1), by omega, rfl, hlt, p'⟩, fun x H' y => ?_⟩
    obtain ⟨e, y⟩ := y
    subst e
    exact hs i x σ _ (y xs q) p
  · have e : i = xs.length := by omega
    subst e
    exact .inl ⟨⟨xs, q, Nat.le_refl _⟩, hd σ H p⟩
end L2
namespace L2
open PySem PySem.Spec PyProof.Rows
noncomputable abbrev R2 := V → V → Hp → VK → Prop
noncomputable def OpR (X : Cx) (f : Value → Value → Sem Value) (r : R2) : Prop :=
  ∀ (pins : List (Addr × Obj)) (s : Shared) (σ : St) (H : Hp) (x y : V) (v u : Value) (Q : VK), Inv X pins σ H s → RelV x v → RelV y u → r x y H Q →
    wpAny (model X.prog X.w) X.A (f v u) (EP X pins σ Q) X.xe s
noncomputable def UnR (X : Cx) (f : Value → Sem Value) (r : V → Hp → VK → Prop) : Prop :=
  ∀ (pins : List (Addr × Obj)) (s : Shared) (σ : St) (H : Hp) (x : V) (v : Value) (Q : VK), Inv X pins σ H s → RelV x v → r x H Q →
    wpAny (model X.prog X.w) X.A (f v) (EP X pins σ Q) X.xe s
noncomputable def CallR (X : Cx) (f : Value) (r : List V → Hp → VK → Prop) : Prop :=
  ∀ (pins : List (Addr × Obj)) (s : Shared) (σ : St) (H : Hp) (xs : List V) (us : List Value) (Q : VK), Inv X pins σ H s → Vals xs us → r xs H Q →
    wpAny (model X.prog X.w) X.A (call f us) (EP X pins σ Q) X.xe s
noncomputable def TruR (X : Cx) (r : V → Hp → (Bool → Hp → Prop) → Prop) : Prop :=
  ∀ (pins : List (Addr × Obj)) (s : Shared) (σ : St) (H : Hp) (x : V) (v : Value) (Q : Bool → Hp → Prop), Inv X pins σ H s → RelV x v → r x H Q →
    wpAny (model X.prog X.w) X.A (truthy v) (TP X pins σ Q) X.xe s
noncomputable def tOp (r : R2) (ta tb : TE) : TE := fun σ H Q => ta σ H fun x H1 => tb σ H1 fun y H2 => r x y H2 Q
noncomputable def tUn (r : V → Hp → VK → Prop) (ta : TE) : TE := fun σ H Q => ta σ H fun x H1 => r x H1 Q
noncomputable def rI (C : Int → Int → Prop) (g : Int → Int → V) : R2 := fun x y H Q => ∃ i j, x = .int i ∧ y = .int j ∧ C i j ∧ Q (g i j) H
noncomputable def rI0 (g : Int → Int → V) : R2 := fun x y H Q => ∃ i j, x = .int i ∧ y = .int j ∧ Q (g i j) H
noncomputable def rU (g : Int → V) : V → Hp → VK → Prop := fun x H Q => ∃ i, x = .int i ∧ Q (g i) H
section
variable {X : Cx} {a b c : Expr} {ta tb tc : TE} {pos : Pos}
theorem binT (ha : PE X a ta) (hb : PE X b tb) {pins : List (Addr × Obj)} {s : Shared} {σ : St} {H : Hp} {R : V → V → Hp → Prop} (I : Inv X pins σ H s)
    (h : ta σ H fun x H1 => tb σ H1 fun y H2 => R x y H2) {Q : Value → Shared → Prop} {f : Value → Value → Sem Value}
    (hf : ∀ v u s2 x y H2, Inv X pins σ H2 s2 → RelV x v → RelV y u → R x y H2 → wpAny (model X.prog X.w) X.A (f v u) Q X.xe s2) :
    wpAny (model X.prog X.w) X.A (eval a X.env) (fun v s₁ => wpAny (model X.prog X.w) X.A (eval b X.env) (fun u s₂ => wpAny (model X.prog X.w) X.A (f v u) Q X.xe s₂) X.xe s₁) X.xe s := by
  refine thn (ha pins s σ H _ I h) fun v s1 ⟨x, H1, I1, r1, q1⟩ => ?_
  refine thn (hb pins s1 σ H1 _ I1 q1) fun u s2 ⟨y, H2, I2, r2, q2⟩ => ?_
  exact hf v u s2 x y H2 I2 r1 r2 q2
theorem pe_op {op : Operator} {r : R2} (ho : OpR X (binaryOp op) r) (ha : PE X a ta) (hb : PE X b tb) : PE X (.BinOp a op b pos) (tOp r ta tb) := by
  intro pins s σ H Q I h
  exact wpAny_BinOp (binT ha hb I h fun v u s2 x y H2 I2 rx ry q => ho pins s2 σ H2 x y v u Q I2 rx ry q)
theorem pe_un {op : UnaryOp} {r : V → Hp → VK → Prop} (ho : UnR X (unaryOp op) r) (ha : PE X a ta) : PE X (.UnaryOp op a pos) (tUn r ta) := by
  intro pins s σ H Q I h
  exact UnaryOp_ (thn (ha pins s σ H _ I h) fun v s1 ⟨x, H1, I1, r1, q1⟩ => ho pins s1 σ H1 x v Q I1 r1 q1)
theorem opI {f : Value → Value → Sem Value} {C : Int → Int → Prop} {g : Int → Int → Int}
    (rule : ∀ (i j : Int) (t u : Tok) (s : Shared) (Q : Value → Shared → Prop) (E : Value → Shared → Prop), C i j → Q (.int (g i j) s.toks) { s with toks := s.toks + 1 } → wpAny (model X.prog X.w) X.A (f (.int i t) (.int j u)) Q E s) :
    OpR X f (rI C fun i j => .int (g i j)) := by
  intro pins s σ H x y v u Q I rx ry h
  obtain ⟨i, j, rfl, rfl, hc, q⟩ := h
  obtain ⟨t, rfl⟩ := rx
  obtain ⟨t', rfl⟩ := ry
  exact rule i j t t' s _ _ hc ⟨.int (g i j), H, I.tok _, ⟨_, rfl⟩, q⟩
theorem opI0 {f : Value → Value → Sem Value} {g : Int → Int → Int}
    (rule : ∀ (i j : Int) (t u : Tok) (s : Shared) (Q : Value → Shared → Prop) (E : Value → Shared → Prop), Q (.int (g i j) s.toks) { s with toks := s.toks + 1 } → wpAny (model X.prog X.w) X.A (f (.int i t) (.int j u)) Q E s) :
    OpR X f (rI0 fun i j => .int (g i j)) := by
  intro pins s σ H x y v u Q I rx ry h
  obtain ⟨i, j, rfl, rfl, q⟩ := h
  obtain ⟨t, rfl⟩ := rx
  obtain ⟨t', rfl⟩ := ry
  exact rule i j t t' s _ _ ⟨.int (g i j), H, I.tok _, ⟨_, rfl⟩, q⟩
theorem opB0 {f : Value → Value → Sem Value} {g : Int → Int → Bool}
    (rule : ∀ (i j : Int) (t u : Tok) (s : Shared) (Q : Value → Shared → Prop) (E : Value → Shared → Prop), Q (.bool (g i j)) s → wpAny (model X.prog X.w) X.A (f (.int i t) (.int j u)) Q E s) :
    OpR X f (rI0 fun i j => .bl (g i j)) := by
  intro pins s σ H x y v u Q I rx ry h
  obtain ⟨i, j, rfl, rfl, q⟩ := h
  obtain ⟨t, rfl⟩ := rx
  obtain ⟨t', rfl⟩ := ry
  exact rule i j t t' s _ _ ⟨.bl (g i j), H, I, rfl, q⟩
noncomputable def CPow (i j : Int) : Prop := 0 ≤ j ∧ j ≤ 1000000 ∧ i.natAbs < 2 ^ 64
noncomputable def CMul (i j : Int) : Prop := (-(2 ^ 64) < i ∧ i < 2 ^ 64) ∨ (-(2 ^ 64) < j ∧ j < 2 ^ 64)
theorem CMul.ok {i j : Int} (h : CMul i j) : IntMulOk i j := by
  rcases h with ⟨h1, h2⟩ | ⟨h1, h2⟩
  · exact .of_left (intBits_le_64 h1 h2)
  · exact .of_right (intBits_le_64 h1 h2)
theorem op_add : OpR X (binaryOp .Add) (rI0 fun i j => .int (i + j)) := opI0 fun _ _ _ _ _ _ _ q => add_int q
theorem op_sub : OpR X (binaryOp .Sub) (rI0 fun i j => .int (i - j)) := opI0 fun _ _ _ _ _ _ _ q => sub_int q
theorem op_mod : OpR X (binaryOp .Mod) (rI (fun _ j => 0 < j) fun i j => .int (i % j)) := opI fun i j _ _ _ _ _ hc q => by
  have h1 : (0 : Int) < j := hc
  exact mod_int' (by omega) (by rw [Int.fmod_eq_emod_of_nonneg i (by omega)]; exact q)
theorem op_pow : OpR X (binaryOp .Pow) (rI CPow fun i j => .int (i ^ j.toNat)) := opI fun _ _ _ _ _ _ _ hc q => pow_int_small hc.1 hc.2.1 hc.2.2 q
theorem unI {f : Value → Sem Value} {g : Int → Int}
    (rule : ∀ (i : Int) (t : Tok) (s : Shared) (Q : Value → Shared → Prop) (E : Value → Shared → Prop), Q (.int (g i) s.toks) { s with toks := s.toks + 1 } → wpAny (model X.prog X.w) X.A (f (.int i t)) Q E s) :
    UnR X f (rU fun i => .int (g i)) := by
  intro pins s σ H x v Q I rx h
  obtain ⟨i, rfl, q⟩ := h
  obtain ⟨t, rfl⟩ := rx
  exact rule i t s _ _ ⟨.int (g i), H, I.tok _, ⟨_, rfl⟩, q⟩
theorem un_neg : UnR X (unaryOp .USub) (rU fun i => .int (-i)) := unI fun _ _ _ _ _ q => neg_int q
end
noncomputable def scal : V → V → Bool
  | .non, .non => true | .non, .int _ => true | .int _, .non => true | .non, .bl _ => true | .bl _, .non => true | .non, .str _ => true | .str _, .non => true
  | .int _, .int _ => true | .bl _, .bl _ => true | .str _, .str _ => true | .byt _, .byt _ => true
  | .int _, .str _ => true | .str _, .int _ => true | .bl _, .str _ => true | .str _, .bl _ => true
  | _, _ => false
noncomputable def rEq : R2 := fun x y H Q => scal x y = true ∧ Q (.bl (decide (x = y))) H
noncomputable def rNe : R2 := fun x y H Q => scal x y = true ∧ Q (.bl (!decide (x = y))) H
theorem dec_int {i j : Int} : decide (V.int i = V.int j) = (i == j) := by
  rw [Bool.eq_iff_iff]
  simp
theorem dec_bl {i j : Bool} : decide (V.bl i = V.bl j) = (i == j) := by
  rw [Bool.eq_iff_iff]
  simp
theorem dec_str {i j : Str} : decide (V.str i = V.str j) = (i == j) := by
  rw [Bool.eq_iff_iff]
  simp
theorem dec_byt {i j : Array UInt8} : decide (V.byt i = V.byt j) = (i.toList == j.toList) := by
  rw [Bool.eq_iff_iff]
  cases i
  cases j
  simp
section
variable {X : Cx} {a b c : Expr} {ta tb tc : TE} {pos : Pos}
theorem fin_bl {pins : List (Addr × Obj)} {σ : St} {H : Hp} {s : Shared} {Q : VK} {k k' : Bool} (I : Inv X pins σ H s) (q : Q (.bl k) H) (e : k = k') : EP X pins σ Q (.bool k') s := by
  subst e
  exact ⟨.bl k, H, I, rfl, q⟩
theorem op_eq : OpR X (compareOp .Eq) rEq := by
  intro pins s σ H x y v u Q I rx ry h
  obtain ⟨hs, q⟩ := h
  cases x with
  | non =>
    cases rx
    cases y with
    | non => cases ry; exact PySem.EqNone.eq_none_none (fin_bl I q (by simp))
    | bl j => cases ry; exact PySem.EqNone.eq_none_bool (fin_bl I q (by simp))
    | int j => obtain ⟨t', rfl⟩ := ry; exact PySem.EqNone.eq_none_int (fin_bl I q (by simp))
    | str j => obtain ⟨t', rfl⟩ := ry; exact PySem.EqNone.eq_none_str (fin_bl I q (by simp))
    | _ => exact absurd (show false = true from hs) Bool.false_ne_true
  | bl i =>
    cases rx
    cases y with
    | non => cases ry; exact PySem.EqNone.eq_bool_none (fin_bl I q (by simp))
    | bl j => cases ry; exact eq_bool (fin_bl I q dec_bl)
    | str j => obtain ⟨t', rfl⟩ := ry; exact PySem.EqMixed.eq_bool_str (fin_bl I q (by simp))
    | _ => exact absurd (show false = true from hs) Bool.false_ne_true
  | int i =>
    obtain ⟨t, rfl⟩ := rx
    cases y with
    | non => cases ry; exact PySem.EqNone.eq_int_none (fin_bl I q (by simp))
    | int j => obtain ⟨t', rfl⟩ := ry; exact eq_int (fin_bl I q dec_int)
    | str j => obtain ⟨t', rfl⟩ := ry; exact PySem.EqMixed.eq_int_str (fin_bl I q (by simp))
    | _ => exact absurd (show false = true from hs) Bool.false_ne_true
  | str i =>
    obtain ⟨t, rfl⟩ := rx
    cases y with
    | non => cases ry; exact PySem.EqNone.eq_str_none (fin_bl I q (by simp))
    | bl j => cases ry; exact PySem.EqMixed.eq_str_bool (fin_bl I q (by simp))
    | int j => obtain ⟨t', rfl⟩ := ry; exact PySem.EqMixed.eq_str_int (fin_bl I q (by simp))
    | str j => obtain ⟨t', rfl⟩ := ry; exact eq_str (fin_bl I q dec_str)
    | _ => exact absurd (show false = true from hs) Bool.false_ne_true
  | byt i =>
    obtain ⟨t, rfl⟩ := rx
    cases y with
    | byt j => obtain ⟨t', rfl⟩ := ry; exact PySem.W.eq_bytes (fin_bl I q dec_byt)
    | _ => exact absurd (show false = true from hs) Bool.false_ne_true
  | _ => cases y <;> exact absurd (show false = true from hs) Bool.false_ne_true
theorem op_ne : OpR X (compareOp .NotEq) rNe := by
  intro pins s σ H x y v u Q I rx ry h
  obtain ⟨hs, q⟩ := h
  cases x with
  | non =>
    cases rx
    cases y with
    | non => cases ry; exact PySem.EqNone.ne_none_none (fin_bl I q (by simp))
    | bl j => cases ry; exact PySem.EqNone.ne_none_bool (fin_bl I q (by simp))
    | int j => obtain ⟨t', rfl⟩ := ry; exact PySem.EqNone.ne_none_int (fin_bl I q (by simp))
    | str j => obtain ⟨t', rfl⟩ := ry; exact PySem.EqNone.ne_none_str (fin_bl I q (by simp))
    | _ => exact absurd (show false = true from hs) Bool.false_ne_true
  | bl i =>
    cases rx
    cases y with
    | non => cases ry; exact PySem.EqNone.ne_bool_none (fin_bl I q (by simp))
    | bl j => cases ry; exact ne_bool (fin_bl I q (congrArg not dec_bl))
    | str j => obtain ⟨t', rfl⟩ := ry; exact PySem.EqMixed.ne_bool_str (fin_bl I q (by simp))
    | _ => exact absurd (show false = true from hs) Bool.false_ne_true
  | int i =>
    obtain ⟨t, rfl⟩ := rx
    cases y with
    | non => cases ry; exact PySem.EqNone.ne_int_none (fin_bl I q (by simp))
    | int j => obtain ⟨t', rfl⟩ := ry; exact ne_int (fin_bl I q (congrArg not dec_int))
    | str j => obtain ⟨t', rfl⟩ := ry; exact PySem.EqMixed.ne_int_str (fin_bl I q (by simp))
    | _ => exact absurd (show false = true from hs) Bool.false_ne_true
  | str i =>
    obtain ⟨t, rfl⟩ := rx
    cases y with
    | non => cases ry; exact PySem.EqNone.ne_str_none (fin_bl I q (by simp))
    | bl j => cases ry; exact PySem.EqMixed.ne_str_bool (fin_bl I q (by simp))
    | int j => obtain ⟨t', rfl⟩ := ry; exact PySem.EqMixed.ne_str_int (fin_bl I q (by simp))
    | str j => obtain ⟨t', rfl⟩ := ry; exact ne_str (fin_bl I q (congrArg not dec_str))
    | _ => exact absurd (show false = true from hs) Bool.false_ne_true
  | byt i =>
    obtain ⟨t, rfl⟩ := rx
    cases y with
    | byt j => obtain ⟨t', rfl⟩ := ry; exact PySem.W.ne_bytes (fin_bl I q (congrArg not dec_byt))
    | _ => exact absurd (show false = true from hs) Bool.false_ne_true
  | _ => cases y <;> exact absurd (show false = true from hs) Bool.false_ne_true
theorem op_lt : OpR X (compareOp .Lt) (rI0 fun i j => .bl (decide (i < j))) := opB0 fun _ _ _ _ _ _ _ q => lt_int q
theorem op_le : OpR X (compareOp .LtE) (rI0 fun i j => .bl (decide (i ≤ j))) := opB0 fun _ _ _ _ _ _ _ q => le_int q
theorem op_gt : OpR X (compareOp .Gt) (rI0 fun i j => .bl (decide (j < i))) := opB0 fun _ _ _ _ _ _ _ q => gt_int q
theorem op_ge : OpR X (compareOp .GtE) (rI0 fun i j => .bl (decide (j ≤ i))) := opB0 fun _ _ _ _ _ _ _ q => ge_int q
theorem op_lt_str : OpR X (compareOp .Lt) (fun x y H Q => ∃ i j, x = .str i ∧ y = .str j ∧ Q (.bl (decide (i.cps.toList < j.cps.toList))) H) := by
  intro pins s σ H x y v u Q I rx ry h
  obtain ⟨i, j, rfl, rfl, q⟩ := h
  obtain ⟨t, rfl⟩ := rx
  obtain ⟨t', rfl⟩ := ry
  exact lt_str (fin_bl I q rfl)
theorem op_isN : OpR X (compareOp .Is) (fun x y H Q => y = .non ∧ Q (.bl (decide (x = .non))) H) := by
  intro pins s σ H x y v u Q I rx ry h
  obtain ⟨rfl, q⟩ := h
  cases ry
  refine is_none_gen (fin_bl I q ?_)
  cases x <;> first
    | (cases rx; rfl)
    | (obtain ⟨t, rfl⟩ := rx; rfl)
theorem op_notN : OpR X (compareOp .IsNot) (fun x y H Q => y = .non ∧ Q (.bl (!decide (x = .non))) H) := by
  intro pins s σ H x y v u Q I rx ry h
  obtain ⟨rfl, q⟩ := h
  cases ry
  refine isnot_none_gen (fin_bl I q ?_)
  cases x <;> first
    | (cases rx; rfl)
    | (obtain ⟨t, rfl⟩ := rx; rfl)
theorem OpR.or {f : Value → Value → Sem Value} {r r' : R2} (h : OpR X f r) (h' : OpR X f r') : OpR X f (fun x y H Q => r x y H Q ∨ r' x y H Q) := by
  intro pins s σ H x y v u Q I rx ry q
  rcases q with q | q
  · exact h pins s σ H x y v u Q I rx ry q
  · exact h' pins s σ H x y v u Q I rx ry q
theorem nomark (b : Expr) {op : CmpOp} (h : op ≠ .In := by decide) (h2 : op ≠ .NotIn := by decide) : behindInMarks op b = false := by
  have e1 : (op == CmpOp.In) = false := by cases op <;> first | rfl | exact absurd rfl h
  have e2 : (op == CmpOp.NotIn) = false := by cases op <;> first | rfl | exact absurd rfl h2
  cases b <;> simp [behindInMarks, e1, e2]
theorem pe_cmpR {op : CmpOp} {r : R2} (ho : OpR X (compareOp op) r) (ha : PE X a ta) (hb : PE X b tb) (hm : behindInMarks op b = false) : PE X (.Compare a [op] [b] pos) (tOp r ta tb) := by
  intro pins s σ H Q I h
  exact wpAny_Compare1 (binT ha hb I h fun v u s2 x y H2 I2 rx ry q => ho pins s2 σ H2 x y v u Q I2 rx ry q) hm
noncomputable def tTest (t : TE) : TT := fun σ H Q => t σ H fun x H' => ∃ k, x = .bl k ∧ Q k H'
theorem pt_cmpR {op : CmpOp} {r : R2} (ho : OpR X (compareOp op) r) (ha : PE X a ta) (hb : PE X b tb) (hm : behindInMarks op b = false) : PT X (.Compare a [op] [b] pos) (tTest (tOp r ta tb)) := by
  intro pins s σ H Q I h
  refine wpAny_isTrue_Compare1 (thn (ha pins s σ H _ I h) fun v s1 ⟨x, H1, I1, r1, q1⟩ => thn (hb pins s1 σ H1 _ I1 q1) fun u s2 ⟨y, H2, I2, r2, q2⟩ =>
    thn (ho pins s2 σ H2 x y v u _ I2 r1 r2 q2) fun c s3 ⟨z, H3, I3, r3, k, e, q3⟩ => ?_) hm
  subst e
  cases r3
  exact wpAny_truthy_bool ⟨H3, I3, q3⟩
noncomputable def tChain (r r' : R2) (ta tb tc : TE) : TE := fun σ H Q => ta σ H fun x H1 => tb σ H1 fun y H2 => r x y H2 fun z H3 => ∃ k, z = .bl k ∧
  (if k = true then tc σ H3 fun w' H4 => r' y w' H4 Q else Q (.bl false) H3)
theorem pt_chain {op op' : CmpOp} {r r' : R2} (ho : OpR X (compareOp op) r) (ho' : OpR X (compareOp op') r') (ha : PE X a ta) (hb : PE X b tb) (hc : PE X c tc)
    (hm : lastMarks [op, op'] [b, c] = false := by with_unfolding_all rfl) : PT X (.Compare a [op, op'] [b, c] pos) (tTest (tChain r r' ta tb tc)) := by
  intro pins s σ H Q I h
  refine isTrue_chain (thn (ha pins s σ H _ I h) fun v s1 ⟨x, H1, I1, r1, q1⟩ => test_link (thn (hb pins s1 σ H1 _ I1 q1) fun u s2 ⟨y, H2, I2, r2, q2⟩ =>
    thn (ho pins s2 σ H2 x y v u _ I2 r1 r2 q2) fun d s3 ⟨z, H3, I3, r3, k, e, q3⟩ => ?_)) hm
  subst e
  cases r3
  refine wpAny_truthy_bool ?_
  cases k with
  | false =>
    obtain ⟨k', e', q'⟩ := q3
    cases e'
    exact ite_ff ⟨H3, I3, q'⟩
  | true =>
    refine ite_tt (test_last (thn (hc pins s3 σ H3 _ I3 q3) fun w' s4 ⟨z', H4, I4, r4, q4⟩ => thn (ho' pins s4 σ H4 y z' u w' _ I4 r2 r4 q4) fun d' s5 ⟨z2, H5, I5, r5, k2, e2, q5⟩ => ?_))
    subst e2
    cases r5
    exact wpAny_truthy_bool ⟨H5, I5, q5⟩
noncomputable def TruV (K : PySem.W.Frag) (x : V) (H : Hp) (k : Bool) : Prop :=
  match x with
  | .non => k = false
  | .bl b => k = b
  | .int i => k = (i != 0)
  | .str y => y.length ≤ sizeLine ∧ k = ((y.length : Int) != 0)
  | .byt y => y.size ≤ sizeLine ∧ k = ((y.size : Int) != 0)
  | .ref p => (∃ xs, SqL K H p xs ∧ k = !xs.isEmpty) ∨ (∃ xs, SqT K H p xs ∧ k = !xs.isEmpty) ∨ ∃ kvs, H p = some (.dK kvs) ∧ k = !kvs.isEmpty
  | _ => False
theorem isEmpty_kv {κ : Type} {kvs : List (κ × V)} {vs : List (κ × Value)} (r : KV kvs vs) : (!vs.isEmpty) = !kvs.isEmpty := by
  cases r <;> rfl
theorem isEmpty_of {xs : List V} {its : List Value} (r : Vals xs its) : (!its.toArray.isEmpty) = !xs.isEmpty := by
  cases r <;> simp
theorem line63 : (sizeLine : Nat) < 2 ^ 63 := by rw [sizeLine_eq]; decide
theorem tru_ok : TruR X (fun x H Q => ∃ k, TruV X.K x H k ∧ Q k H) := by
  intro pins s σ H x v Q I rx h
  obtain ⟨k, e, q⟩ := h
  have hl := line63
  have hs : sizeLine = 16777216 := sizeLine_eq
  cases x with
  | non =>
    cases rx
    have e' : k = false := e
    subst e'
    exact truthy_none ⟨H, I, q⟩
  | bl b =>
    cases rx
    have e' : k = b := e
    subst e'
    exact wpAny_truthy_bool ⟨H, I, q⟩
  | int i =>
    obtain ⟨t, rfl⟩ := rx
    have e' : k = (i != 0) := e
    subst e'
    exact PySem.P.truthy_int ⟨H, I, q⟩
  | str y =>
    obtain ⟨t, rfl⟩ := rx
    obtain ⟨hy, e'⟩ : y.length ≤ sizeLine ∧ k = ((y.length : Int) != 0) := e
    subst e'
    exact PySem.P.truthy_str (by omega) ⟨H, I.tok _, q⟩
  | byt y =>
    obtain ⟨t, rfl⟩ := rx
    obtain ⟨hy, e'⟩ : y.size ≤ sizeLine ∧ k = ((y.size : Int) != 0) := e
    subst e'
    exact PySem.W.truthy_bytes (by omega) ⟨H, I.tok _, q⟩
  | ref p =>
    cases rx
    have e' : (∃ xs, SqL X.K H p xs ∧ k = !xs.isEmpty) ∨ (∃ xs, SqT X.K H p xs ∧ k = !xs.isEmpty) ∨ ∃ kvs, H p = some (.dK kvs) ∧ k = !kvs.isEmpty := e
    rcases e' with ⟨xs, hx, e'⟩ | ⟨xs, hx, e'⟩ | ⟨kvs, hx, e'⟩
    · subst e'
      obtain ⟨its, r, pl, hz⟩ := I.list hx
      have hlen := r.length
      exact wpAny_truthy_list pl.isList (by simp only [List.size_toArray]; omega) ⟨H, I.tok _, by rw [isEmpty_of r]; exact q⟩
    · subst e'
      obtain ⟨its, r, pl, hz⟩ := I.tuple hx
      have hlen := r.length
      exact truthy_tuple pl (by simp only [List.size_toArray]; omega) ⟨H, I.tok _, by rw [isEmpty_of r]; exact q⟩
    · subst e'
      obtain ⟨hz, hS, vs, r, m⟩ : kvs.length ≤ sizeLine ∧ (p == sysModules) = false ∧ ∃ vs, KV kvs vs ∧ s.heap.DictOf (mixKind X.prog X.w) p vs := I.hok p _ hx
      have hlen : kvs.length = vs.length := Paired.length r
      exact wpAny_truthy_dict hS m (by omega) ⟨H, I.tok _, by rw [isEmpty_kv r]; exact q⟩
  | _ => exact (show False from e).elim
theorem pt_truth (ha : PE X a ta) (he : ∀ whole, isTrue a X.env whole = (do let v ← whole; standAt a.pos; holding [v] (truthy v))) :
    PT X a (fun σ H Q => ta σ H fun x H' => ∃ k, TruV X.K x H' k ∧ Q k H') := by
  intro pins s σ H Q I h
  exact isTrue_plain (thn (ha pins s σ H _ I h) fun v s1 ⟨x, H1, I1, r1, q1⟩ => tru_ok pins s1 σ H1 x v Q I1 r1 q1) (he _)
theorem op_add_str : OpR X (binaryOp .Add) (fun x y H Q => ∃ i j, x = .str i ∧ y = .str j ∧ i.length + j.length ≤ sizeLine ∧ Q (.str (i ++ j)) H) := by
  intro pins s σ H x y v u Q I rx ry h
  obtain ⟨i, j, rfl, rfl, hz, q⟩ := h
  obtain ⟨t, rfl⟩ := rx
  obtain ⟨t', rfl⟩ := ry
  exact add_str (fun t' tk => ⟨.str (i ++ j), H, I.tok _, ⟨_, rfl⟩, q⟩) hz
theorem vals1 {x : V} {us : List Value} (r : Vals [x] us) : ∃ u, us = [u] ∧ RelV x u := by
  cases r with
  | cons r1 r2 => cases r2; exact ⟨_, rfl, r1⟩
theorem vals2 {x y : V} {us : List Value} (r : Vals [x, y] us) : ∃ u w', us = [u, w'] ∧ RelV x u ∧ RelV y w' := by
  cases r with
  | cons r1 r2 =>
    cases r2 with
    | cons r3 r4 => cases r4; exact ⟨_, _, rfl, r1, r3⟩
theorem call_abs : CallR X (.builtin "abs") (fun xs H Q => ∃ i, xs = [.int i] ∧ Q (.int (if i < 0 then -i else i)) H) := by
  intro pins s σ H xs us Q I r h
  obtain ⟨i, rfl, q⟩ := h
  obtain ⟨u, rfl, t, rfl⟩ := vals1 r
  exact call_abs_int fun u tk => ⟨.int (if i < 0 then -i else i), H, I.tok _, ⟨_, rfl⟩, q⟩
theorem call_min2 (hc : X.calm = true) : CallR X (.builtin "min") (fun xs H Q => ∃ i j, xs = [.int i, .int j] ∧ Q (.int (if j < i then j else i)) H) := by
  intro pins s σ H xs us Q I r h
  obtain ⟨i, j, rfl, q⟩ := h
  obtain ⟨u, w', rfl, ⟨t, rfl⟩, ⟨t', rfl⟩⟩ := vals2 r
  refine min_two_ints (I.ok.hd hc) fun h' tk k => ⟨_, H, I.kept k, ?_, q⟩
  by_cases hj : j < i
  · rw [if_pos hj, if_pos hj]; exact ⟨_, rfl⟩
  · rw [if_neg hj, if_neg hj]; exact ⟨_, rfl⟩
end
end L2
namespace L2
open PySem PySem.Spec PyProof.Rows
structure ObjM (h : Heap) (x dx C : Addr) (mA : Str → Option Value) : Prop where
  obj : h.get? x = some (PySem.W.instObj C dx)
  ns : h.Ns1 dx mA
  ne : dx ≠ x
theorem lookIn_ns {h : Heap} {dx : Addr} {mA : Str → Option Value} (n : h.Ns1 dx mA) : ∃ od, h.get? dx = some od ∧ ∀ name, PySem.W.lookIn name od = some (mA name) := by
  obtain ⟨o, es, ep, ho, hd, hk, _, hm⟩ := n
  refine ⟨o, ho, fun name => ?_⟩
  have e := hm name
  unfold nsFind findBy at e
  rw [← Array.find?_toList] at e
  unfold PySem.W.lookIn
  rw [hd]
  dsimp only
  split
  · rename_i y q
    rw [q] at e
    exact congrArg some e
  · rename_i q
    rw [q] at e
    have a : es.toList.any (·.refKey) = false := by
      rw [List.any_eq_false]
      intro y hy
      obtain ⟨z, t, hkey⟩ := hk y (Array.mem_toList_iff.mp hy)
      simp [DictEntry.refKey, hkey]
    have a' : ¬ es.toList.any (·.refKey) = true := by rw [a]; exact Bool.false_ne_true
    rw [if_neg a']
    exact congrArg some e
theorem ObjM.look {h : Heap} {x dx C : Addr} {mA : Str → Option Value} (I : ObjM h x dx C mA) : ∃ od, PySem.W.InstAt h x (PySem.W.instObj C dx) C (some od) ∧ ∀ name, PySem.W.lookIn name od = some (mA name) :=
  let ⟨od, ho, hl⟩ := lookIn_ns I.ns
  ⟨od, ⟨I.obj, rfl, rfl, ho⟩, hl⟩
theorem RelO.some_of {v : V} {o : Option Value} (r : RelO (some v) o) : ∃ u, o = some u ∧ RelV v u := by
  cases o with
  | none => exact (show False from r).elim
  | some u => exact ⟨u, rfl, r⟩
section
variable {P : Program} {w : World} {H H' : Hp} {h h' : Heap} {a C dx : Addr} {fs fs' : List (Str × V)}
theorem ins_get (hok : HOk P w H h) (e : H a = some (.ins C dx fs)) : ∃ mA, ObjM h a dx C mA ∧ (∀ f, RelO (fs.lookup f) (mA f)) ∧ PySem.Within mA (fs.map (·.1)) ∧ fs.length ≤ 1000 ∧ H dx = some (.own a) := by
  obtain ⟨d, z, ne, ob, mA, n, r, q⟩ := (show ObjOk P w H h a (.ins C dx fs) from hok a _ e)
  exact ⟨mA, ⟨ob, n, ne⟩, r, q, z, d⟩
end
structure Cls (K : PySem.W.Frag) (C : Addr) : Prop where
  pg : PySem.W.plainGet K C Str.empty = true
  hd : PySem.W.hasDictIn K C = true
  po : PySem.W.plainOver K C = true
  sa : PySem.W.findIn K (.ref C) "__setattr__" = some (some (.builtin "object.__setattr__"))
theorem Cls.get {K : PySem.W.Frag} {C : Addr} (c : Cls K C) (f : Str) : PySem.W.plainGet K C f = true := c.pg
section
variable {X : Cx} {pins : List (Addr × Obj)} {σ : St} {H : Hp} {s : Shared} {A : Around} {E : Value → Shared → Prop} {Q : Value → Shared → Prop} {c : Value} {b : Bool}
inductive TyOf (K : PySem.W.Frag) (H : Hp) : V → Value → Prop where
  | non : TyOf K H .non (.type "NoneType")
  | bl (x : Bool) : TyOf K H (.bl x) (.type "bool")
  | int (i : Int) : TyOf K H (.int i) (.type "int")
  | str (x : Str) : TyOf K H (.str x) (.type "str")
  | flt (x : UInt64) : TyOf K H (.flt x) (.type "float")
  | lst {a : Addr} {xs : List V} (e : H a = some (.lst xs)) : TyOf K H (.ref a) (.type "list")
  | frz {a : Addr} {o : Obj} {xs : List V} (e : H a = some (.frz o (.lst xs))) : TyOf K H (.ref a) (.type "list")
  | tup {a : Addr} {xs : List V} (e : H a = some (.tup xs)) : TyOf K H (.ref a) (.type "tuple")
  | dK {a : Addr} {kvs : List (Key × V)} (e : H a = some (.dK kvs)) : TyOf K H (.ref a) (.type "dict")
  | dT {a : Addr} {kvs : List (List Key × V)} (e : H a = some (.dT kvs)) : TyOf K H (.ref a) (.type "dict")
  | ins {a C dx : Addr} {fs : List (Str × V)} (e : H a = some (.ins C dx fs)) (cl : Cls K C) (ha : PySem.W.findIn K (.ref C) "__class__" = some (some (.builtin "object.__class__")))
      (hn : PySem.W.specialIn K (.builtin "object.__class__") "__get__" = some (some (.builtin "getset_descriptor.__get__"))) (htk : PySem.W.takesIn K (.builtin "object.__class__") = some true)
      (hm : PySem.W.mroIn K C (.type "object") = some true) : TyOf K H (.ref a) (.ref C)
theorem isinst_ok {x : V} {u t : Value} (I : Inv X pins σ H s) (rx : RelV x u) (ty : TyOf X.K H x t) (e : PySem.W.kitOne X.K t c = some b) (h : ∀ tk, Q (.bool b) { s with toks := tk }) :
    wpAny (model X.prog X.w) A (call (.builtin "isinstance") [u, c]) Q E s := by
  cases ty with
  | non => cases (show u = Value.none from rx); exact PySem.W.kia_one PySem.W.kitx_none I.kIn True.intro e (fun z => nomatch z) h
  | bl y => cases (show u = Value.bool y from rx); exact PySem.W.kia_one PySem.W.kitx_bool I.kIn True.intro e (fun z => nomatch z) h
  | int i => obtain ⟨t, q⟩ := (show ∃ t, u = Value.int i t from rx); cases q; exact PySem.W.kia_one PySem.W.kitx_int I.kIn True.intro e (fun z => nomatch z) h
  | str y => obtain ⟨t, q⟩ := (show ∃ t, u = Value.str y t from rx); cases q; exact PySem.W.kia_one PySem.W.kitx_str I.kIn True.intro e (fun z => nomatch z) h
  | flt y => obtain ⟨t, q⟩ := (show ∃ t, u = Value.float y t from rx); cases q; exact PySem.W.kia_one PySem.W.kitx_float I.kIn True.intro e (fun z => nomatch z) h
  | @lst a xs ea =>
    cases (show u = Value.ref a from rx)
    obtain ⟨_, _, n, _, h1⟩ := (show ObjOk X.prog X.w H s.heap a (.lst xs) from I.hok a _ ea)
    exact PySem.W.kia_one PySem.W.kitx_list I.kIn ⟨_, h1, rfl⟩ e (fun z => nomatch z) h
  | @frz a ob xs ea =>
    cases (show u = Value.ref a from rx)
    obtain ⟨_, _, _, n, _, h1⟩ := (show ObjOk X.prog X.w H s.heap a (.frz ob (.lst xs)) from I.hok a _ ea)
    exact PySem.W.kia_one PySem.W.kitx_list I.kIn ⟨_, h1, rfl⟩ e (fun z => nomatch z) h
  | @tup a xs ea =>
    cases (show u = Value.ref a from rx)
    obtain ⟨_, _, _, p⟩ := (show ObjOk X.prog X.w H s.heap a (.tup xs) from I.hok a _ ea)
    obtain ⟨o, h1, h2, _⟩ := p
    exact PySem.W.kia_one PySem.W.kitx_tuple I.kIn ⟨o, h1, h2⟩ e (fun z => nomatch z) h
  | @dK a kvs ea =>
    cases (show u = Value.ref a from rx)
    obtain ⟨_, _, vs, _, p⟩ := (show ObjOk X.prog X.w H s.heap a (.dK kvs) from I.hok a _ ea)
    obtain ⟨o, es, ep, h1, h2, _⟩ := p
    exact PySem.W.kia_one PySem.W.kitx_dict I.kIn ⟨o, h1, h2.1⟩ e (fun z => nomatch z) h
  | @dT a kvs ea =>
    cases (show u = Value.ref a from rx)
    obtain ⟨_, _, xs, _, o, es, ep, h1, h2, _⟩ := (show ObjOk X.prog X.w H s.heap a (.dT kvs) from I.hok a _ ea)
    exact PySem.W.kia_one PySem.W.kitx_dict I.kIn ⟨o, h1, h2.1⟩ e (fun z => nomatch z) h
  | @ins a C dx fs ea cl ha hn htk hm =>
    cases (show u = Value.ref a from rx)
    obtain ⟨mA, O, _⟩ := ins_get I.hok ea
    obtain ⟨od, J, _⟩ := O.look
    exact PySem.W.kia_one (PySem.W.kitx_own (cl.get _) cl.hd ha hn htk hm) I.kIn J e (fun z => nomatch z) h
end
end L2
namespace L2
open PySem PySem.Spec PyProof.Rows
structure Room (k : Nat) (A : Around) : Prop where
  hd : A.handled = none
  dp : A.depth + 3 * k + 5 < recursionLimit
  un : A.units + 16 * k + 200 < cLine
theorem Room.mono {j k : Nat} {A : Around} (r : Room k A) (h : j ≤ k) : Room j A := ⟨r.hd, by have := r.dp; omega, by have := r.un; omega⟩
theorem Room.deeper {k : Nat} {A : Around} (r : Room (k + 1) A) (env : Env) : Room k (A.deeper env) :=
  ⟨r.hd, by have := r.dp; show A.depth + 1 + 3 * k + 5 < _; omega, by have := r.un; show A.units + 3 + 16 * k + 200 < _; omega⟩
theorem Room.in1 {k : Nat} {A : Around} (r : Room (k + 1) A) : Room k A.in1 :=
  ⟨r.hd, by have := r.dp; show A.depth + 3 * k + 5 < _; omega, by have := r.un; show A.units + 1 + 16 * k + 200 < _; omega⟩
theorem Room.depth {k : Nat} {A : Around} (r : Room k A) : A.depth < recursionLimit := by have := r.dp; omega
theorem Room.units {k : Nat} {A : Around} (r : Room k A) : A.units + 64 < cLine := by have := r.un; omega
noncomputable def tNil : TA := fun _ H Q => Q [] H
noncomputable def tCons (ta : TE) (tr : TA) : TA := fun σ H Q => ta σ H fun x H1 => tr σ H1 fun xs H2 => Q (x :: xs) H2
section
variable {X : Cx} {e : Expr} {es : List Expr} {te : TE} {t : TA} {pos : Pos}
theorem pa_nil : PA X [] tNil := fun _ _ _ _ H Q I h => Calls.spliced_nil ⟨[], H, I, .nil, h⟩
theorem pa_cons (ha : PE X e te) (hr : PA X es t) (hs : starEach (e :: es) X.env = (false, eval e X.env) :: starEach es X.env := by rfl) : PA X (e :: es) (tCons te t) := by
  intro pos pins s σ H Q I h
  rw [hs]
  show wpAny _ _ (spliced ((false, eval e X.env) :: backTo pos (starEach es X.env))) _ _ s
  refine Calls.spliced_cons (thn (ha pins s σ H _ I h) fun u s1 ⟨x, H1, I1, r1, q1⟩ => ?_)
  exact thn (hr pos pins s1 σ H1 _ I1 q1) fun us s2 ⟨xs, H2, I2, r2, q2⟩ => ⟨x :: xs, H2, I2, .cons r1 r2, q2⟩
noncomputable def tTup (t : TA) : TE := fun σ H Q => t σ H fun xs H1 => xs.length ≤ sizeLine ∧ ∀ p, H1 p = none → Q (.ref p) (upd H1 p (.tup xs))
noncomputable def tLst (t : TA) : TE := fun σ H Q => t σ H fun xs H1 => xs.length ≤ sizeLine ∧ ∀ p, H1 p = none → Q (.ref p) (upd H1 p (.lst xs))
theorem pe_tup {x1} (h : PA X es t) : PE X (.Tuple es x1 pos) (tTup t) := by
  intro pins s σ H Q I hq
  refine wpAny_Tuple_spliced (thn (h pos pins s σ H _ I hq) fun us s1 ⟨xs, H1, I1, r, z, q⟩ => ⟨by rw [← r.length]; exact z, ?_⟩)
  have hf : H1 s1.heap.objs.size = none := I1.hok.fresh (Nat.le_refl _)
  refine ⟨.ref s1.heap.objs.size, upd H1 s1.heap.objs.size (.tup xs), I1.laid (t' := s1.toks) (fun b u e => Heap.get?_push_of_some _ e) (Nat.le_refl _) ?_, rfl, q _ hf⟩
  exact ⟨z, us, r, ⟨_, Heap.get?_push_size _ rfl, rfl, _, rfl⟩⟩
theorem pe_lst (h : PA X es t) : PE X (.List es pos) (tLst t) := by
  intro pins s σ H Q I hq
  refine wpAny_List_spliced (thn (h pos pins s σ H _ I hq) fun us s1 ⟨xs, H1, I1, r, z, q⟩ => ⟨by rw [← r.length]; exact z, ?_⟩)
  have hf : H1 s1.heap.objs.size = none := I1.hok.fresh (Nat.le_refl _)
  refine ⟨.ref s1.heap.objs.size, upd H1 s1.heap.objs.size (.lst xs), I1.laid (t' := s1.toks) (fun b u e => Heap.get?_push_of_some _ e) (Nat.le_refl _) ?_, rfl, q _ hf⟩
  exact ⟨z, us, 0, r, Heap.get?_push_size _ rfl⟩
end
noncomputable abbrev Sp := List V → Hp → VK → XK → Prop
noncomputable abbrev CXT := List Env → Hp → Shared → XK → Value → Shared → Prop
structure Env0 (P : Program) (w : World) (K : PySem.W.Frag) (mg : Str → Option Value) (base : Heap) (A : Around) (outer : List Env) (s : Shared) (H : Hp) : Prop where
  frames : A.frames = some outer
  mod : Mod K mg base
  bs : ∀ b o, base.get? b = some o → s.heap.get? b = some o ∧ H b = none
  bsz : base.objs.size ≤ s.heap.objs.size
  funs : s.heap.FunFrames base outer
  frf : ∀ b ∈ frs outer, H b = none
  hok : HOk P w H s.heap
  bare : AllBare s.gens
noncomputable def CE (outer : List Env) (P : Program) (w : World) (H : Hp) (s : Shared) (Q : VK) (u : Value) (s' : Shared) : Prop :=
  ∃ v H', s'.os = s.os ∧ AllBare s'.gens ∧ Un (frs outer) [] H H' s.heap s'.heap ∧ HOk P w H' s'.heap ∧ RelV v u ∧ Q v H'
noncomputable def CR (CX : CXT) (outer : List Env) (P : Program) (w : World) (H : Hp) (s : Shared) (Q : VK) (E : XK) (r : Result) (s' : Shared) : Prop :=
  match r with
  | .ok (.ret u) => CE outer P w H s Q u s'
  | .ok _ => False
  | .error e => CX outer H s E e s'
structure FnOk (P : Program) (w : World) (K : PySem.W.Frag) (mg : Str → Option Value) (base : Heap) (CX : CXT) (k : Nat) (f : Addr) (fd : FuncData) (ps : List Str) (sp : Sp) : Prop where
  len : ∀ vs H Q E, sp vs H Q E → vs.length = ps.length
  run : ∀ (A : Around) (outer : List Env) (s : Shared) (H : Hp) (args : Args) (us : List Value) (vs : List V) (Q : VK) (E : XK), Room k A → Env0 P w K mg base A outer s H → BindsTo s fd args (ps.zip us) → Vals vs us → sp vs H Q E →
    codeAny (model P w) A (.call (.ref f) args) (CR CX outer P w H s Q E) s
theorem FnOk.mono {P : Program} {w : World} {K : PySem.W.Frag} {mg : Str → Option Value} {base : Heap} {CX : CXT} {j k : Nat} {f : Addr} {fd : FuncData} {ps : List Str} {sp : Sp} (F : FnOk P w K mg base CX j f fd ps sp) (h : j ≤ k) :
    FnOk P w K mg base CX k f fd ps sp := ⟨F.len, fun A outer s H args us vs Q E hr => F.run A outer s H args us vs Q E (hr.mono h)⟩
theorem FnOk.imp {P : Program} {w : World} {K : PySem.W.Frag} {mg : Str → Option Value} {base : Heap} {CX : CXT} {k : Nat} {f : Addr} {fd : FuncData} {ps : List Str} {sp sp' : Sp} (F : FnOk P w K mg base CX k f fd ps sp)
    (h : ∀ vs H Q E, sp' vs H Q E → sp vs H Q E) : FnOk P w K mg base CX k f fd ps sp' :=
  ⟨fun vs H Q E q => F.len vs H Q E (h _ _ _ _ q), fun A outer s H args us vs Q E hr he hb hv hs => F.run A outer s H args us vs Q E hr he hb hv (h _ _ _ _ hs)⟩
theorem Env0.in1 {P : Program} {w : World} {K : PySem.W.Frag} {mg : Str → Option Value} {base : Heap} {A : Around} {outer : List Env} {s : Shared} {H : Hp} (e : Env0 P w K mg base A outer s H) :
    Env0 P w K mg base A.in1 outer s H := ⟨e.frames, e.mod, e.bs, e.bsz, e.funs, e.frf, e.hok, e.bare⟩
section
variable {X : Cx} {pins : List (Addr × Obj)} {σ : St} {H : Hp} {s s' : Shared}
theorem Inv.env0 (I : Inv X pins σ H s) : Env0 X.prog X.w X.K X.mg X.base X.A X.stack s H :=
  ⟨I.ok.frames, I.ok.mod, I.bs, Nat.le_trans I.ok.bsz I.sz, I.stack, I.stkFree, I.hok, I.bare⟩
theorem Inv.after {Q : VK} {u : Value} (I : Inv X pins σ H s) (h : CE X.stack X.prog X.w H s Q u s') : EP X pins σ Q u s' := by
  obtain ⟨v, H', os, bare, un, hok, r, q⟩ := h
  obtain ⟨hh, g, d, t, os'⟩ := s'
  obtain rfl : os' = s.os := os
  exact ⟨v, H', I.call (h' := hh) (g' := g) (d' := d) (t' := t) (ch := []) un hok bare (fun b z => absurd z (by simp)), r, q⟩
end
noncomputable def tCall (sp : Sp) (dvs : List V) (E : XK) (t : TA) : TE := fun σ H Q => t σ H fun vs H1 => sp (vs ++ dvs) H1 Q E
noncomputable def Binds (K : PySem.W.Frag) (fd : FuncData) (ps : List Str) (ds : List Value) : Prop :=
  ∀ (s : Shared) (us : List Value), K.In s.heap → (us ++ ds).length = ps.length → BindsTo s fd ⟨us, []⟩ (ps.zip (us ++ ds))
theorem Binds.all {K : PySem.W.Frag} {fd : FuncData} {ps : List Str} (h : ∀ us : List Value, us.length = ps.length → bindArgs fd ⟨us, []⟩ = pure (ps.zip us)) : Binds K fd ps [] := fun s us _ hl => by
  rw [List.append_nil] at hl ⊢
  exact .of_eq (h us hl)
noncomputable def Passes (CX : CXT) (X : Cx) (E : XK) : Prop := ∀ (pins : List (Addr × Obj)) (σ : St) (H : Hp) (s : Shared) (e : Value) (s' : Shared), Inv X pins σ H s → CX X.stack H s E e s' → X.xe e s'
section
variable {X : Cx} {CX : CXT} {k : Nat} {f C : Addr} {fd : FuncData} {ps : List Str} {sp : Sp} {dvs : List V} {ds : List Value} {E : XK} {x m : Str} {p pos apos : Pos} {e o : Expr} {es : List Expr} {ta : TE} {t : TA}
theorem run_fn {pins : List (Addr × Obj)} {σ : St} {H : Hp} {s : Shared} {Q : VK} {us : List Value} {vs : List V} (F : FnOk X.prog X.w X.K X.mg X.base CX k f fd ps sp) (hr : Room k X.A) (hb : Binds X.K fd ps ds) (hd : Vals dvs ds) (hx : Passes CX X E)
    (I : Inv X pins σ H s) (r : Vals vs us) (h : sp (vs ++ dvs) H Q E) : wpAny (model X.prog X.w) X.A (call (.ref f) us) (EP X pins σ Q) X.xe s := by
  have r2 : Vals (vs ++ dvs) (us ++ ds) := r.append hd
  have hl : (us ++ ds).length = ps.length := by rw [← r2.length]; exact F.len _ _ _ _ h
  refine wpAny_call (codeAny_mono (F.run X.A X.stack s H ⟨us, []⟩ (us ++ ds) (vs ++ dvs) Q E hr I.env0 (hb s us I.kIn hl) r2 h) fun r s' hq => ?_)
  cases r with
  | error e => exact hx pins σ H s e s' I hq
  | ok fl =>
    cases fl with
    | ret u => exact I.after hq
    | next => exact False.elim hq
    | brk => exact False.elim hq
    | cont => exact False.elim hq
theorem pe_call (F : FnOk X.prog X.w X.K X.mg X.base CX k f fd ps sp) (hr : Room k X.A) (hg : Gl X x) (hm : X.mg x = some (.ref f)) (hk : PySem.W.keepIn X.K (.ref f) = true) (hb : Binds X.K fd ps ds) (hd : Vals dvs ds) (hx : Passes CX X E)
    (ha : PA X (e :: es) t) (hdb : (x == ("__debug__" : Str)) = false := by decide) (he : starEach (e :: es) X.env = (false, eval e X.env) :: starEach es X.env := by rfl) (hpl : (backTo pos (starEach es X.env)).any (·.1) = false := by rfl) :
    PE X (.Call (.Name x p) (e :: es) [] pos) (tCall sp dvs E t) := by
  intro pins s σ H Q I h
  refine wpAny_Call_Name_kw (ld_glob I hg hm ?_ hdb)
  refine PySem.W.callWith_K (h₀ := X.base) I.ok.mod.kin hk (thn (ha pos pins s σ H _ I h) fun us s1 ⟨vs, H1, I1, r, q⟩ => ⟨I1.kIn, ?_⟩) he hpl
  exact run_fn F hr hb hd hx I1 r q
end
structure FnScope (N P : List Str) (sc : Scope) : Prop where
  kind : sc.kind = .function
  co : sc.isCoroutine = false
  gen : sc.isGenerator = false
  nd : N.Nodup
  pre : N.take P.length = P
  par : ∀ x ∈ P, sc.names.lookup x = some .local ∨ sc.names.lookup x = some .cell
  nofree : ∀ y ∈ sc.names, y.2 ≠ .free
theorem bindL_out {kindOf : Str → Option NameKind} {x : Str} : ∀ {binds : List (Str × Value)} {m : Str → Option Value}, (∀ v, (x, v) ∉ binds) → bindL kindOf binds m x = m x
  | [], _, _ => rfl
  | (n, v) :: r, m, h => by
    unfold bindL
    rw [bindL_out fun w hw => h w (List.mem_cons_of_mem _ hw)]
    split
    · have : x ≠ n := by rintro rfl; exact h v List.mem_cons_self
      simp [this]
    · rfl
theorem bindC_out {kindOf : Str → Option NameKind} {x : Str} : ∀ {binds : List (Str × Value)} {m : Str → Option Value}, (∀ v, (x, v) ∉ binds) → bindC kindOf binds m x = m x
  | [], _, _ => rfl
  | (n, v) :: r, m, h => by
    unfold bindC
    rw [bindC_out fun w hw => h w (List.mem_cons_of_mem _ hw)]
    split
    · rfl
    · have : x ≠ n := by rintro rfl; exact h v List.mem_cons_self
      simp [this]
theorem bindL_get {kindOf : Str → Option NameKind} {x : Str} {v : Value} : ∀ {P : List Str} {vs : List Value} {i : Nat} {m : Str → Option Value}, P.Nodup → P[i]? = some x → vs[i]? = some v → kindOf x = some .local →
    bindL kindOf (P.zip vs) m x = some v
  | [], _, _, _, _, h, _, _ => by simp at h
  | _ :: _, [], _, _, _, _, h, _ => by simp at h
  | p :: P, w :: vs, 0, m, nd, h1, h2, hk => by
    simp at h1 h2; subst h1; subst h2
    show bindL kindOf ((p, w) :: P.zip vs) m p = _
    unfold bindL
    rw [bindL_out fun v hv => (List.nodup_cons.mp nd).1 (List.of_mem_zip hv).1, if_pos hk]
    simp
  | p :: P, w :: vs, i + 1, m, nd, h1, h2, hk => by
    show bindL kindOf ((p, w) :: P.zip vs) m x = _
    unfold bindL
    exact bindL_get (i := i) (List.nodup_cons.mp nd).2 (by simpa using h1) (by simpa using h2) hk
theorem bindC_get {kindOf : Str → Option NameKind} {x : Str} {v : Value} : ∀ {P : List Str} {vs : List Value} {i : Nat} {m : Str → Option Value}, P.Nodup → P[i]? = some x → vs[i]? = some v → kindOf x ≠ some .local →
    bindC kindOf (P.zip vs) m x = some v
  | [], _, _, _, _, h, _, _ => by simp at h
  | _ :: _, [], _, _, _, _, h, _ => by simp at h
  | p :: P, w :: vs, 0, m, nd, h1, h2, hk => by
    simp at h1 h2; subst h1; subst h2
    show bindC kindOf ((p, w) :: P.zip vs) m p = _
    unfold bindC
    rw [bindC_out fun v hv => (List.nodup_cons.mp nd).1 (List.of_mem_zip hv).1, if_neg hk]
    simp
  | p :: P, w :: vs, i + 1, m, nd, h1, h2, hk => by
    show bindC kindOf ((p, w) :: P.zip vs) m x = _
    unfold bindC
    exact bindC_get (i := i) (List.nodup_cons.mp nd).2 (by simpa using h1) (by simpa using h2) hk
noncomputable def start (N : List Str) (vs : List V) : St := vs.map some ++ List.replicate (N.length - vs.length) none
noncomputable def cxOf (CX : CXT) (P : Program) (w : World) (K : PySem.W.Frag) (mg : Str → Option Value) (base : Heap) (N : List Str) (qual : Str) (scope : Scope) (f : Addr) (cd : Value) (A : Around) (outer : List Env) (s : Shared) (H : Hp) (E : XK) : Cx where
  prog := P
  w := w
  K := K
  mg := mg
  base := base
  A := A.deeper (envOfC qual scope s.heap.objs.size f cd)
  N := N
  s₀ := s
  H₀ := H
  env := envOfC qual scope s.heap.objs.size f cd
  outer := outer
  stack := envOfC qual scope s.heap.objs.size f cd :: outer
  ex := []
  calm := true
  fn := fun _ => true
  pn := []
  xe := fun e s' => wpAny (model P w) (A.deeper (envOfC qual scope s.heap.objs.size f cd)) (leaving (envOfC qual scope s.heap.objs.size f cd) e) (fun _ s'' => CX outer H s E e s'') (fun e' s'' => CX outer H s E e' s'') s'
theorem cell_has {sc : Scope} {n : Nat} {x : Str} (h : sc.names.lookup x = some .cell) : ∃ c, (cellsFrom n sc.names []).lookup x = some c := by
  have q := PySem.W.cellsFrom_some sc.names n [] (.inl h)
  exact Option.isSome_iff_exists.mp q
theorem inv_start {CX : CXT} {P : Program} {w : World} {K : PySem.W.Frag} {mg : Str → Option Value} {base : Heap} {N ps : List Str} {qual : Str} {scope : Scope} {f : Addr} {cd : Value} {A : Around} {outer : List Env} {s s1 : Shared} {H : Hp} {E : XK} {us : List Value} {vs : List V}
    (S : FnScope N ps scope) (hd : A.handled = none) (e0 : Env0 P w K mg base A outer s H) (hl : vs.length = ps.length) (r : Vals vs us)
    (x : InCallC s s.heap.objs.size (bindL (envOfC qual scope s.heap.objs.size f cd).kindOf (ps.zip us) fun _ => none) (cellsFrom (s.heap.objs.size + 1) scope.names []) (bindC (envOfC qual scope s.heap.objs.size f cd).kindOf (ps.zip us) fun _ => none) s1) :
    Inv (cxOf CX P w K mg base N qual scope f cd A outer s H E) [] (start N vs) H s1 := by
  have hpl : ps.length ≤ N.length := by have := congrArg List.length S.pre; rw [List.length_take] at this; omega
  obtain ⟨h1, tk, rfl, hk⟩ := x.done
  have noA : ∀ b : Addr, b ∉ (cxOf CX P w K mg base N qual scope f cd A outer s H E).ex := fun b z => absurd (show b ∈ ([] : List Addr) from z) (by simp)
  refine ⟨⟨e0.mod, S.kind, rfl, rfl, Nat.le_refl _, fun y z c h1 h2 => ?_, fun y hy => ?_, fun y c _ h => ?_, fun _ => hd, Around.frames_deeper e0.frames, .inr ⟨rfl, rfl⟩, fun b z => absurd z (noA b), e0.bs, e0.bsz, fun b _ _ => noA b, fun b z => absurd z (noA b), e0.funs, e0.frf⟩,
    rfl, e0.bare, Un.kept hk, ⟨_, x.toInCall.ns, fun i y v h1 h2 h3 => ?_⟩, fun y c h => ⟨_, x.cell y c h⟩, e0.hok.fresh (Nat.le_refl _), fun y c h => ?_, fun p hp => absurd (show p ∈ ([] : List (Addr × Obj)) from hp) (by simp), e0.hok.kept hk, ?_⟩
  · exact name_of_addr x.apart (PySem.mem_of_lookup h1) (PySem.mem_of_lookup h2)
  · have hy : scope.names.lookup y = some .cell ∨ scope.names.lookup y = some .free := hy
    rcases hy with hy | hy
    · exact cell_has hy
    · exact absurd rfl (S.nofree _ (PySem.mem_of_lookup hy))
  · exact Nat.le_of_lt (x.above y c (PySem.mem_of_lookup h))
  · have hi : i < vs.length := by
      unfold start at h2
      by_cases hi : i < vs.length
      · exact hi
      · rw [List.getElem?_append_right (by simpa using hi)] at h2
        rw [List.getElem?_replicate] at h2
        split at h2 <;> cases h2
    have ha : vs[i]? = some v := by
      unfold start at h2
      rw [List.getElem?_append_left (by simpa using hi), List.getElem?_map] at h2
      cases e : vs[i]? with
      | none => rw [e] at h2; cases h2
      | some a => rw [e] at h2; cases h2; rfl
    obtain ⟨u, hu, rv⟩ := r.get ha
    have hp : ps[i]? = some y := by
      rw [← S.pre, List.getElem?_take_of_lt (by omega)]; exact h1
    have ndP : ps.Nodup := by rw [← S.pre]; exact S.nd.sublist (List.take_sublist _ _)
    refine ⟨u, rv, ?_⟩
    rcases S.par y (List.mem_of_getElem? hp) with k | k
    · exact .inl ⟨k, bindL_get ndP hp hu k⟩
    · obtain ⟨c, e⟩ := cell_has (n := s.heap.objs.size + 1) k
      refine .inr ⟨.inl k, c, e, ?_⟩
      have q := x.cell y c e
      rw [bindC_get ndP hp hu (by show scope.names.lookup y ≠ _; rw [k]; decide)] at q
      exact q
  · exact e0.hok.fresh (Nat.le_of_lt (x.above y c (PySem.mem_of_lookup h)))
  · unfold start
    show _ = N.length
    rw [List.length_append, List.length_map, List.length_replicate]
    omega
theorem fn_of {CX : CXT} {P : Program} {w : World} {K : PySem.W.Frag} {mg : Str → Option Value} {base : Heap} {k : Nat} {f : Addr} {name qual : Str} {params : Arguments} {body : List Stmt} {scope : Scope} {dV kV doc pm cdv ct oc : Value} {an od : Option Addr}
    {osl : Array (Option Value)} {N ps : List Str} {sp : Sp} (lk : K.lookup f = some ⟨oc, od, .func (PySem.W.fnOf name qual params body scope dV kV doc pm an cdv ct), osl⟩) (hcd : PySem.W.codeIn K cdv qual = true) (S : FnScope N ps scope)
    (len : ∀ vs H Q E, sp vs H Q E → vs.length = ps.length)
    (hbody : ∀ (A : Around) (outer : List Env) (s : Shared) (H : Hp) (vs : List V) (Q : VK) (E : XK), Room k (A.deeper (envOfC qual scope s.heap.objs.size f cdv)) → sp vs H Q E →
      ∃ t, PSs (cxOf CX P w K mg base N qual scope f cdv A outer s H E) body t ∧ t { nx := fun _ H' => Q .non H', rt := Q } (start N vs) H) :
    FnOk P w K mg base CX (k + 1) f (PySem.W.fnOf name qual params body scope dV kV doc pm an cdv ct) ps sp := by
  refine ⟨len, fun A outer s H args us vs Q E hr e0 hb r hsp => ?_⟩
  have hl := len _ _ _ _ hsp
  have KX : K.In s.heap := e0.mod.kin.keeps fun b o e => (e0.bs b o e).1
  have lim : s.heap.NoLimit := e0.mod.nolimit.keeps fun b o e => (e0.bs b o e).1
  have hkind : ∀ y ∈ ps.zip us, scope.names.lookup y.1 = some .local ∨ (scope.names.lookup y.1 = some .cell ∧ ((cellsFrom (s.heap.objs.size + 1) scope.names []).lookup y.1).isSome = true) := fun ⟨n, v⟩ hy => by
    rcases S.par n (List.of_mem_zip hy).1 with q | q
    · exact .inl q
    · exact .inr ⟨q, PySem.W.cellsFrom_some _ _ _ (.inl q)⟩
  refine codeAny_call_function hr.depth (KX _ _ lk) rfl S.co S.gen rfl (PySem.W.codeRec_of KX hcd) (hb _ _ _ _ ?_)
  refine wpAny_newFunctionEnv_cells S.kind hkind fun env he s1 x => ?_
  subst he
  refine ⟨lim.keeps x.toInCall.keep, codeAny_func ?_⟩
  obtain ⟨t, ht, hq⟩ := hbody A outer s H vs Q E (hr.deeper _) hsp
  have I : Inv (cxOf CX P w K mg base N qual scope f cdv A outer s H E) [] (start N vs) H s1 := inv_start S hr.hd e0 hl r x
  refine wpAny_mono (ht [] s1 (start N vs) H _ I hq) (fun fl s' hs => ?_) fun e s' hs => hs
  have fin : ∀ {σ' : St} {H' : Hp} {v : V} {u : Value}, Inv (cxOf CX P w K mg base N qual scope f cdv A outer s H E) [] σ' H' s' → RelV v u → Q v H' → CE outer P w H s Q u s' :=
    fun {σ' H' v u} J rv q => ⟨v, H', J.os, J.bare, J.base, J.hok, rv, q⟩
  cases fl with
  | ret u =>
    obtain ⟨v, σ', H', J, rv, q⟩ := hs
    exact fin J rv q
  | next =>
    obtain ⟨σ', H', J, q⟩ := hs
    exact fin (v := V.non) (u := Value.none) J rfl q
  | brk =>
    obtain ⟨_, _, _, q⟩ := hs
    exact False.elim q
  | cont =>
    obtain ⟨_, _, _, q⟩ := hs
    exact False.elim q
end L2
namespace L2
open PySem PySem.Spec PyProof.Rows
section
variable {X : Cx} {x : Str} {p pos : Pos} {e : Expr} {es : List Expr} {t : TA} {id T : String} {r : List V → Hp → VK → Prop}
noncomputable def tCB (r : List V → Hp → VK → Prop) (t : TA) : TE := fun σ H Q => t σ H fun vs H1 => r vs H1 Q
theorem pe_callB (hc : CallR X (.builtin id) r) (hg : Gl X x) (hm : X.mg x = none) (hv : bootBuiltins x = some (.builtin id)) (ha : PA X (e :: es) t) (hn : x ≠ "__name__" := by decide) (hdb : (x == ("__debug__" : Str)) = false := by decide)
    (he : starEach (e :: es) X.env = (false, eval e X.env) :: starEach es X.env := by rfl) (hpl : (backTo pos (starEach es X.env)).any (·.1) = false := by rfl) : PE X (.Call (.Name x p) (e :: es) [] pos) (tCB r t) := by
  intro pins s σ H Q I h
  refine wpAny_Call_Name_kw (ld_blt I hg hm hv ?_ hn hdb)
  exact PyProof.Rows.callWith_builtin1 (thn (ha pos pins s σ H _ I h) fun us s1 ⟨vs, H1, I1, r1, q1⟩ => hc pins s1 σ H1 vs us Q I1 r1 q1) he hpl
theorem pe_callTy (hc : CallR X (.type T) r) (hg : Gl X x) (hm : X.mg x = none) (hv : bootBuiltins x = some (.type T)) (ha : PA X (e :: es) t) (hn : x ≠ "__name__" := by decide) (hdb : (x == ("__debug__" : Str)) = false := by decide)
    (he : starEach (e :: es) X.env = (false, eval e X.env) :: starEach es X.env := by rfl) (hpl : (backTo pos (starEach es X.env)).any (·.1) = false := by rfl) : PE X (.Call (.Name x p) (e :: es) [] pos) (tCB r t) := by
  intro pins s σ H Q I h
  refine wpAny_Call_Name_kw (ld_blt I hg hm hv ?_ hn hdb)
  exact PyProof.Rows.callWith_type1 (thn (ha pos pins s σ H _ I h) fun us s1 ⟨vs, H1, I1, r1, q1⟩ => hc pins s1 σ H1 vs us Q I1 r1 q1) he hpl
end
end L2
namespace HT
open PySem PyProof.Rows
section
open PySem.SeqAt
open PySem.AutoSeq1 (wpAny_loadPart')
open PySem.MeetsSeq PySem.MeetsSeq2 PySem.MeetsSeq3
end
section
variable {prog : Program} {w : World} {A : Around} {E : Value → Shared → Prop} {s : Shared}
noncomputable def sIx (n d : Nat) : Option Int → Nat
  | none => d
  | some v => if v < 0 then (v + (n : Int)).toNat else min v.toNat n
theorem sIx_none (n d : Nat) : sIx n d none = d := rfl
theorem sIx_nat (n d k : Nat) : sIx n d (some (k : Int)) = min k n := by
  show (if (k : Int) < 0 then ((k : Int) + (n : Int)).toNat else min (k : Int).toNat n) = min k n
  rw [if_neg (by omega), Int.toNat_natCast]
theorem sIx_le (n d : Nat) (hd : d ≤ n) (o : Option Int) : sIx n d o ≤ n := by
  cases o with
  | none => exact hd
  | some v =>
    show (if v < 0 then (v + (n : Int)).toNat else min v.toNat n) ≤ n
    by_cases hv : v < 0
    · rw [if_pos hv]; omega
    · rw [if_neg hv]; exact Nat.min_le_right _ _
theorem clip_eq (v : Int) (n d : Nat) : (if v < 0 then max (v + (n : Int)) 0 else min v (n : Int)) = ((sIx n d (some v) : Nat) : Int) := by
  show (if v < 0 then max (v + (n : Int)) 0 else min v (n : Int)) = (((if v < 0 then (v + (n : Int)).toNat else min v.toNat n) : Nat) : Int)
  by_cases hv : v < 0
  · simp only [if_pos hv]; omega
  · simp only [if_neg hv]; omega
theorem adjust_gen (lo hi : Option Int) (n : Nat) : Builtin.Slice.sliceAdjust lo hi 1 (n : Int) = (((sIx n 0 lo : Nat) : Int), ((sIx n n hi : Nat) : Int)) := by
  have h1 : ¬ ((1 : Int) < 0) := by omega
  unfold Builtin.Slice.sliceAdjust
  simp only [h1, if_false]
  refine Prod.ext ?_ ?_
  · cases lo with
    | none => rfl
    | some v => exact clip_eq v n 0
  · cases hi with
    | none => rfl
    | some v => exact clip_eq v n n
theorem places_gen (i j : Nat) : Builtin.Slice.slicePlaces (i : Int) (j : Int) 1 = j - i := by
  unfold Builtin.Slice.slicePlaces
  have h1 : (1 : Int) > 0 := by omega
  simp only [h1, if_true, Int.ediv_one]
  split <;> omega
theorem slicePart_ {v : Value} {o : Option Int} {Q : Option Int → Shared → Prop} (p : IsPart v o) (h : Q o s) : wpAny (model prog w) A (Builtin.Slice.slicePartIndex v) Q E s := by
  cases p with
  | none => exact slicePart_none h
  | int i t => exact slicePart_int h
theorem sliceApplied_gen {sl : Addr} {vl vu : Value} {lo hi : Option Int} {n : Nat} {Q : Int × Int × Nat → Shared → Prop} (hs : s.heap.IsSliceOf sl vl vu .none) (pl : IsPart vl lo) (pu : IsPart vu hi)
    (h : Q (((sIx n 0 lo : Nat) : Int), 1, sIx n n hi - sIx n 0 lo) s) : wpAny (model prog w) A (Builtin.Slice.sliceApplied (.ref sl) (pure (n : Int))) Q E s := by
  obtain ⟨os, hos, hcs, hds⟩ := id hs
  unfold Builtin.Slice.sliceApplied Builtin.Slice.sliceFields
  refine wpAny_bind (wpAny_bind (wpAny_field hos hds (x := vl) rfl (wpAny_bind (wpAny_field hos hds (x := vu) rfl (wpAny_bind (wpAny_field hos hds (x := .none) rfl (wpAny_pure ?_)))))))
  refine wpAny_bind (slicePart_none ?_)
  show wpAny _ _ (if ((1 : Int) == 0) = true then _ else _) _ _ s
  rw [if_neg (by decide)]
  refine wpAny_bind (slicePart_ pl (wpAny_bind (slicePart_ pu (wpAny_bind (wpAny_pure ?_)))))
  show wpAny _ _ (match Builtin.Slice.sliceAdjust lo hi 1 (n : Int) with | (lo, hi) => pure (lo, (1 : Int), Builtin.Slice.slicePlaces lo hi 1)) _ _ s
  rw [adjust_gen lo hi n]
  show wpAny _ _ (pure (((sIx n 0 lo : Nat) : Int), (1 : Int), Builtin.Slice.slicePlaces ((sIx n 0 lo : Nat) : Int) ((sIx n n hi : Nat) : Int) 1)) _ _ s
  rw [places_gen]
  exact wpAny_pure h
theorem pick_gen (xs : Array Value) (i k : Nat) : ((List.range k).filterMap fun (m : Nat) => xs[((i : Int) + (m : Int) * 1).toNat]?).toArray = ((xs.toList.drop i).take k).toArray := by
  have e : (fun (m : Nat) => xs[((i : Int) + (m : Int) * 1).toNat]?) = fun m => xs[i + m]? := by
    funext m
    have : ((i : Int) + (m : Int) * 1).toNat = i + m := by omega
    rw [this]
  rw [e]
  have := pick_run xs i k
  rw [List.filterMap_map] at this
  have e2 : ((fun x => xs[x]?) ∘ fun x => i + x) = fun m => xs[i + m]? := rfl
  rw [e2] at this
  rw [this]
theorem getItem_tuple_cut {t sl : Addr} {items : Array Value} {vl vu : Value} {lo hi : Option Int} {Q : Value → Shared → Prop} (ht : IsTup s.heap t items) (hs : s.heap.IsSliceOf sl vl vu .none) (pl : IsPart vl lo) (pu : IsPart vu hi)
    (hw : ¬ (sIx items.size 0 lo = 0 ∧ sIx items.size items.size hi = items.size))
    (h : Q (.ref s.heap.objs.size) { s with heap := s.heap.push { cls := .type "tuple", data := .seq ((items.toList.drop (sIx items.size 0 lo)).take (sIx items.size items.size hi - sIx items.size 0 lo)).toArray } })
    (hsz : items.size ≤ sizeLine) : wpAny (model prog w) A (getItem (.ref t) (.ref sl)) Q E s := by
  have htake : sizeOk (.seq ((items.toList.drop (sIx items.size 0 lo)).take (sIx items.size items.size hi - sIx items.size 0 lo)).toArray) := by
    show ((items.toList.drop (sIx items.size 0 lo)).take (sIx items.size items.size hi - sIx items.size 0 lo)).toArray.size ≤ sizeLine
    rw [List.size_toArray, List.length_take, List.length_drop, Array.length_toList]
    omega
  have hj : sIx items.size items.size hi ≤ items.size := sIx_le _ _ (Nat.le_refl _) hi
  obtain ⟨os, hos, hcs, hds⟩ := id hs
  have hTs : s.TypeIs (.ref sl) "slice" := ⟨os, hos, hcs⟩
  unfold getItem
  try with_reducible refine wpAny_holding ?_
  first | refine wpAny_bind (wpAny_pure ?_) | skip
  refine wpAny_bind (wpAny_sequenceKey ht.typeIs (by decide) ?_)
  refine wpAny_bind (wpAny_callSpecial?_slot (name := Str.ofString "__getitem__") ht.typeIs PyProof.Rows.slot_tuple_getitem
    (wpAny_call_entry PyProof.Rows.slot_tuple_getitem ht.typeIs entry_tuple_getitem ?_ (args_tuple_getitem _ _)))
  show wpAny _ _ (Builtin.Tuple.tupleItemsOf (.ref t) >>= _) _ _ s
  refine wpAny_bind (tupleItemsOf_ ht ?_)
  refine wpAny_bind (wpAny_typeOf hTs ?_)
  rw [if_pos (by decide)]
  refine wpAny_bind (sliceApplied_gen hs pl pu ?_)
  have hno : ¬ ((((sIx items.size 0 lo : Nat) : Int) == 0 && (1 : Int) == 1 && (sIx items.size items.size hi - sIx items.size 0 lo) == items.size) = true) := by
    intro q
    rw [Bool.and_eq_true, Bool.and_eq_true] at q
    have q1 : ((sIx items.size 0 lo : Nat) : Int) = 0 := eq_of_beq q.1.1
    have q2 : sIx items.size items.size hi - sIx items.size 0 lo = items.size := eq_of_beq q.2
    exact hw ⟨by omega, by omega⟩
  show wpAny _ _ (if (((sIx items.size 0 lo : Nat) : Int) == 0 && (1 : Int) == 1 && (sIx items.size items.size hi - sIx items.size 0 lo) == items.size) = true then _ else _) _ _ s
  rw [if_neg hno, pick_gen]
  first
    | exact wpAny_bind (m := Builtin.Tuple.tupleExact _) (wpAny_newObj_type (wpAny_pure ⟨_, rfl, wpAny_pure h⟩) htake)
    | exact wpAny_bind (m := Builtin.Tuple.tupleExact _) (wpAny_newObj_type (wpAny_bind (wpAny_pure (wpAny_pure ⟨_, rfl, wpAny_pure h⟩))) htake)
    | exact wpAny_bind (wpAny_bind (m := Builtin.Tuple.tupleExact _) (wpAny_newObj_type (wpAny_pure (wpAny_pure ⟨_, rfl, wpAny_pure h⟩)) htake))
    | exact wpAny_bind (wpAny_bind (m := Builtin.Tuple.tupleExact _) (wpAny_newObj_type (wpAny_pure ⟨_, rfl, wpAny_pure h⟩) htake))
end
end HT
namespace L2
open PySem PySem.Spec PyProof.Rows
noncomputable abbrev TO := St → Hp → (Option Int → Hp → Prop) → Prop
noncomputable def PO (X : Cx) (e : Option Expr) (t : TO) : Prop :=
  ∀ (pins : List (Addr × Obj)) (s : Shared) (σ : St) (H : Hp) (Q : Option Int → Hp → Prop), Inv X pins σ H s → t σ H Q →
    wpAny (model X.prog X.w) X.A (evalPart e X.env) (fun u s' => ∃ o H', Inv X pins σ H' s' ∧ IsPart u o ∧ Q o H') X.xe s
noncomputable def tNoPart : TO := fun _ H Q => Q none H
noncomputable def tPart (t : TE) : TO := fun σ H Q => t σ H fun x H1 => ∃ i, x = .int i ∧ Q (some i) H1
section
variable {X : Cx} {e : Expr} {te : TE} {lo hi : Option Expr} {tl th : TO} {pos p2 : Pos}
theorem po_none : PO X none tNoPart := by
  intro pins s σ H Q I h
  rw [evalPart_none]
  exact wpAny_pure ⟨none, H, I, .none, h⟩
theorem po_some (h : PE X e te) : PO X (some e) (tPart te) := by
  intro pins s σ H Q I hw
  rw [evalPart_some]
  refine thn (h pins s σ H _ I hw) fun u s1 ⟨x, H1, I1, r1, q1⟩ => ?_
  obtain ⟨i, rfl, q⟩ := q1
  obtain ⟨t, rfl⟩ := r1
  exact ⟨some i, H1, I1, .int i t, q⟩
noncomputable def SlR (X : Cx) (r : V → Option Int → Option Int → Hp → VK → Prop) : Prop :=
  ∀ (pins : List (Addr × Obj)) (s : Shared) (σ : St) (H : Hp) (x : V) (v vl vu : Value) (lo hi : Option Int) (sl : Addr) (Q : VK), Inv X pins σ H s → RelV x v → s.heap.IsSliceOf sl vl vu .none → IsPart vl lo → IsPart vu hi → r x lo hi H Q →
    ∃ T id, typeLookup (.type T) "__getitem__" = pure (some (.builtin id)) ∧ s.TypeIs v T ∧ wpAny (model X.prog X.w) X.A (getItem v (.ref sl)) (EP X pins σ Q) X.xe s
theorem SlR.or {r r' : V → Option Int → Option Int → Hp → VK → Prop} (h : SlR X r) (h' : SlR X r') : SlR X (fun x lo hi H Q => r x lo hi H Q ∨ r' x lo hi H Q) := by
  intro pins s σ H x v vl vu lo hi sl Q I rx hs pl pu q
  rcases q with q | q
  · exact h pins s σ H x v vl vu lo hi sl Q I rx hs pl pu q
  · exact h' pins s σ H x v vl vu lo hi sl Q I rx hs pl pu q
noncomputable def tSl (r : V → Option Int → Option Int → Hp → VK → Prop) (te : TE) (tl th : TO) : TE := fun σ H Q => te σ H fun x H1 => tl σ H1 fun l H2 => th σ H2 fun u H3 => r x l u H3 Q
theorem pe_slice {r : V → Option Int → Option Int → Hp → VK → Prop} (hr : SlR X r) (he : PE X e te) (hl : PO X lo tl) (hu : PO X hi th) : PE X (.Subscript e (.Slice lo hi none p2) pos) (tSl r te tl th) := by
  intro pins s σ H Q I h
  refine Subscript_ (thn (he pins s σ H _ I h) fun v s1 ⟨x, H1, I1, r1, q1⟩ => ?_)
  refine wpAny_Slice (thn (hl pins s1 σ H1 _ I1 q1) fun vl s2 ⟨l, H2, I2, pl, q2⟩ => thn (hu pins s2 σ H2 _ I2 q2) fun vu s3 ⟨u, H3, I3, pu, q3⟩ => ?_)
  rw [evalPart_none]
  refine wpAny_pure ?_
  have I4 : Inv X pins σ H3 { s3 with heap := s3.heap.push { cls := .type "slice", data := .fields #[vl, vu, .none] } } := I3.kept (t' := s3.toks) fun b ob q => Heap.get?_push_of_some _ q
  obtain ⟨T, id, hT, ht, hg⟩ := hr pins { s3 with heap := s3.heap.push { cls := .type "slice", data := .fields #[vl, vu, .none] } } σ H3 x v vl vu l u s3.heap.objs.size Q I4 r1 (Heap.IsSliceOf.new ..) pl pu q3
  show wpAny (model X.prog X.w) X.A (subscriptTail e (.Slice lo hi none p2) v (.ref s3.heap.objs.size)) (EP X pins σ Q) X.xe { s3 with heap := s3.heap.push { cls := .type "slice", data := .fields #[vl, vu, .none] } }
  exact tail_any (ops := [.ref s3.heap.objs.size, v]) ht hT hg (by with_unfolding_all rfl)
noncomputable def cutV (xs : List V) (lo hi : Option Int) : List V := (xs.drop (HT.sIx xs.length 0 lo)).take (HT.sIx xs.length xs.length hi - HT.sIx xs.length 0 lo)
theorem cutV_length (xs : List V) (lo hi : Option Int) : (cutV xs lo hi).length ≤ xs.length := by
  unfold cutV
  rw [List.length_take, List.length_drop]
  omega
noncomputable def rSlT (K : PySem.W.Frag) : V → Option Int → Option Int → Hp → VK → Prop := fun x lo hi H Q => ∃ a xs, x = .ref a ∧ SqT K H a xs ∧
  ¬ (HT.sIx xs.length 0 lo = 0 ∧ HT.sIx xs.length xs.length hi = xs.length) ∧ ∀ p, H p = none → Q (.ref p) (upd H p (.tup (cutV xs lo hi)))
theorem sl_tup : SlR X (rSlT X.K) := by
  intro pins s σ H x v vl vu lo hi sl Q I rx hs pl pu h
  obtain ⟨a, xs, rfl, hx, hw, q⟩ := h
  cases rx
  obtain ⟨its, r, ht, hz⟩ := I.tuple hx
  have hlen : its.toArray.size = xs.length := by rw [List.size_toArray]; exact r.length.symm
  refine ⟨"tuple", _, PyProof.Rows.slot_tuple_getitem.lookup, ht.typeIs, ?_⟩
  refine HT.getItem_tuple_cut ht hs pl pu (by rw [hlen]; exact hw) ?_ (by rw [hlen]; exact hz)
  rw [hlen]
  refine ⟨.ref s.heap.objs.size, _, I.laid (t' := s.toks) (o := .tup (cutV xs lo hi)) (fun b ob q => Heap.get?_push_of_some _ q) (Nat.le_refl _) ?_, rfl, q _ (I.hok.fresh (Nat.le_refl _))⟩
  exact ⟨Nat.le_trans (cutV_length xs lo hi) hz, _, (r.drop (HT.sIx xs.length 0 lo)).take (HT.sIx xs.length xs.length hi - HT.sIx xs.length 0 lo), IsTup.new _ _⟩
end
end L2
namespace L2
open PySem PySem.Spec PyProof.Rows
noncomputable def ixN (n : Nat) (i : Int) : Option Nat := if 0 ≤ i then (if i < n then some i.toNat else none) else if -(n : Int) ≤ i then some (i + n).toNat else none
noncomputable def atI {α : Type} (xs : List α) (i : Int) : Option α := (ixN xs.length i).bind fun j => xs[j]?
theorem ixN_seq {n : Nat} {i : Int} {j : Nat} (h : ixN n i = some j) : seqIndex? i n = some j ∧ j < n ∧ -(n : Int) ≤ i ∧ i < n := by
  unfold ixN at h
  by_cases h0 : 0 ≤ i
  · rw [if_pos h0] at h
    by_cases h1 : i < n
    · rw [if_pos h1] at h
      have e : i.toNat = j := Option.some.inj h
      exact ⟨by rw [seqIndex_of h0 h1, e], by omega, by omega, h1⟩
    · rw [if_neg h1] at h; cases h
  · rw [if_neg h0] at h
    by_cases h1 : -(n : Int) ≤ i
    · rw [if_pos h1] at h
      have e : (i + n).toNat = j := Option.some.inj h
      exact ⟨by rw [seqIndex_neg (by omega) h1, e], by omega, h1, by omega⟩
    · rw [if_neg h1] at h; cases h
theorem atI_get {α : Type} {xs : List α} {i : Int} {v : α} (h : atI xs i = some v) : ∃ j, seqIndex? i xs.length = some j ∧ xs[j]? = some v ∧ j < xs.length ∧ -(xs.length : Int) ≤ i ∧ i < xs.length := by
  unfold atI at h
  cases e : ixN xs.length i with
  | none => rw [e] at h; cases h
  | some j =>
    rw [e] at h
    obtain ⟨h1, h2, h3, h4⟩ := ixN_seq e
    exact ⟨j, h1, h, h2, h3, h4⟩
noncomputable def PlainIx (b : Expr) : Prop := ∀ o i, subscripted b false o i = operate [o, i] (getItem o i)
noncomputable def IxR (X : Cx) (r : R2) : Prop :=
  ∀ (value slice : Expr) (pins : List (Addr × Obj)) (s : Shared) (σ : St) (H : Hp) (x y : V) (v u : Value) (Q : VK), Inv X pins σ H s → RelV x v → RelV y u → r x y H Q →
    subscripted slice false v u = operate [v, u] (getItem v u) → wpAny (model X.prog X.w) X.A (subscriptTail value slice v u) (EP X pins σ Q) X.xe s
noncomputable def MtR (X : Cx) (id : String) (r : V → List V → Hp → VK → Prop) : Prop :=
  ∀ (pins : List (Addr × Obj)) (s : Shared) (σ : St) (H : Hp) (x : V) (xs : List V) (v : Value) (us : List Value) (Q : VK), Inv X pins σ H s → RelV x v → Vals xs us → r x xs H Q →
    wpAny (model X.prog X.w) X.A (call (.builtin id) (v :: us)) (EP X pins σ Q) X.xe s
section
variable {X : Cx} {a b : Expr} {ta tb : TE} {pos : Pos}
theorem IxR.or {r r' : R2} (h : IxR X r) (h' : IxR X r') : IxR X (fun x y H Q => r x y H Q ∨ r' x y H Q) := by
  intro value slice pins s σ H x y v u Q I rx ry q hs
  rcases q with q | q
  · exact h value slice pins s σ H x y v u Q I rx ry q hs
  · exact h' value slice pins s σ H x y v u Q I rx ry q hs
theorem MtR.or {id : String} {r r' : V → List V → Hp → VK → Prop} (h : MtR X id r) (h' : MtR X id r') : MtR X id (fun x xs H Q => r x xs H Q ∨ r' x xs H Q) := by
  intro pins s σ H x xs v us Q I rx rs q
  rcases q with q | q
  · exact h pins s σ H x xs v us Q I rx rs q
  · exact h' pins s σ H x xs v us Q I rx rs q
theorem pe_ix {r : R2} (hr : IxR X r) (ha : PE X a ta) (hb : PE X b tb) (hs : PlainIx b) : PE X (.Subscript a b pos) (tOp r ta tb) := by
  intro pins s σ H Q I h
  exact Subscript_ (binT ha hb I h fun v u s2 x y H2 I2 rx ry q => hr a b pins s2 σ H2 x y v u Q I2 rx ry q (hs _ _))
noncomputable def rIxL (K : PySem.W.Frag) : R2 := fun x y H Q => ∃ p xs i v, x = .ref p ∧ y = .int i ∧ SqL K H p xs ∧ atI xs i = some v ∧ Q v H
noncomputable def rIxT (K : PySem.W.Frag) : R2 := fun x y H Q => ∃ p xs i v, x = .ref p ∧ y = .int i ∧ SqT K H p xs ∧ atI xs i = some v ∧ Q v H
noncomputable def rIxS : R2 := fun x y H Q => ∃ z i c, x = .str z ∧ y = .int i ∧ z.length ≤ sizeLine ∧ atI z.cps.toList i = some c ∧ Q (.str ⟨#[c]⟩) H
theorem ix_list : IxR X (rIxL X.K) := by
  intro value slice pins s σ H x y v u Q I rx ry h hs
  obtain ⟨p, xs, i, z, rfl, rfl, hq, he, q⟩ := h
  cases rx
  obtain ⟨t, rfl⟩ := ry
  obtain ⟨its, r, pl, hz⟩ := I.list hq
  obtain ⟨j, h1, h2, h3, h4, h5⟩ := atI_get he
  obtain ⟨w, ew, rw'⟩ := r.get h2
  have hl := r.length
  have hn := line63
  have fin : EP X pins σ Q w s := ⟨z, H, I, rw', q⟩
  by_cases h0 : 0 ≤ i
  · have hj : i.toNat = j := by
      rw [seqIndex_of h0 h5] at h1
      exact Option.some.inj h1
    exact item_listR pl.isList h0 (by omega) (by rw [hj]; simpa using ew) fin hs
  · have hj : (i + (its.toArray.size : Int)).toNat = j := by
      rw [seqIndex_neg (by omega) h4] at h1
      rw [List.size_toArray, ← hl]
      exact Option.some.inj h1
    exact subscriptTail_builtinR (x := w) pl.isList.typeIs slot_list_getitem.lookup
      (wpAny_getItem_list_neg (Q := fun r s' => r = w ∧ EP X pins σ Q r s') pl.isList (by omega) (by rw [List.size_toArray] <;> omega) (by omega) (by rw [hj]; simpa using ew) ⟨rfl, fin⟩) hs
theorem ix_tup : IxR X (rIxT X.K) := by
  intro value slice pins s σ H x y v u Q I rx ry h hs
  obtain ⟨p, xs, i, z, rfl, rfl, hq, he, q⟩ := h
  cases rx
  obtain ⟨t, rfl⟩ := ry
  obtain ⟨its, r, pl, hz⟩ := I.tuple hq
  obtain ⟨j, h1, h2, h3, h4, h5⟩ := atI_get he
  obtain ⟨w, ew, rw'⟩ := r.get h2
  have hl := r.length
  have hn := line63
  have fin : EP X pins σ Q w s := ⟨z, H, I, rw', q⟩
  exact subscriptTail_builtinR (x := w) pl.typeIs slot_tuple_getitem.lookup
    (getItem_tuple (j := j) (Q := fun r s' => r = w ∧ EP X pins σ Q r s') pl (by omega) (by omega) (by rw [List.size_toArray, ← hl]; exact h1) (by simpa using ew) ⟨rfl, fin⟩) hs
theorem ix_str : IxR X rIxS := by
  intro value slice pins s σ H x y v u Q I rx ry h hs
  obtain ⟨z, i, c, rfl, rfl, hz, he, q⟩ := h
  obtain ⟨t, rfl⟩ := rx
  obtain ⟨t', rfl⟩ := ry
  obtain ⟨j, h1, h2, h3, h4, h5⟩ := atI_get he
  have hl : z.cps.toList.length = z.length := by simp [Str.length]
  rw [hl] at h1 h4 h5
  have hn := line63
  exact tail_any (typeIs_str s z t) slot_str_getitem.lookup (getItem_str (c := c) (by
    have e1 : decide (i < -(2 ^ 63 : Int)) = false := decide_eq_false (by omega)
    have e2 : decide (i ≥ 2 ^ 63) = false := decide_eq_false (by omega)
    rw [e1, e2, Bool.or_false]) (by rw [h1]; simpa using h2) ⟨.str ⟨#[c]⟩, H, I.tok _, ⟨_, rfl⟩, q⟩) hs
noncomputable def rIx (K : PySem.W.Frag) : R2 := fun x y H Q => rIxL K x y H Q ∨ rIxT K x y H Q ∨ rIxS x y H Q
theorem ix_seq : IxR X (rIx X.K) := ix_list.or (ix_tup.or ix_str)
theorem mapSeq_set (its : List Value) (n j : Nat) (u : Value) : Obj.mapSeq (·.setIfInBounds j u) { cls := .type "list", data := .seq its.toArray n } = { cls := .type "list", data := .seq (its.set j u).toArray n } := by
  simp [Obj.mapSeq]
theorem Inv.lst {pins : List (Addr × Obj)} {σ : St} {H : Hp} {s : Shared} {p : Addr} {xs : List V} (I : Inv X pins σ H s) (h : H p = some (.lst xs)) :
    ∃ (its : List Value) (n : Nat), Vals xs its ∧ s.heap.get? p = some { cls := .type "list", data := .seq its.toArray n } ∧ xs.length ≤ sizeLine := by
  obtain ⟨z, its, n, r, e⟩ := I.hok p _ h
  exact ⟨its, n, r, e, z⟩
theorem Inv.lstUpd {pins : List (Addr × Obj)} {σ : St} {H : Hp} {s : Shared} {p : Addr} {xs ys : List V} {its its' : List Value} {n n' : Nat} {f : Obj → Obj} (I : Inv X pins σ H s) (h : H p = some (.lst xs))
    (ho : s.heap.get? p = some { cls := .type "list", data := .seq its.toArray n }) (hf : f { cls := .type "list", data := .seq its.toArray n } = { cls := .type "list", data := .seq its'.toArray n' }) (r : Vals ys its') (hz : ys.length ≤ sizeLine) (t : Nat) :
    Inv X pins σ (upd H p (.lst ys)) { s with heap := s.heap.update p f, toks := t } := by
  have e : (s.heap.update p f).get? p = some { cls := .type "list", data := .seq its'.toArray n' } := by
    rw [Heap.get?_update_self f ho (by rw [hf] <;> rfl), hf]
  refine I.write (x := p) (e := p) (by rw [h]; trivial) (.inl rfl) (fun b u hb q => (Heap.get?_update_other _ _ (Ne.symm hb)).trans q) ⟨_, e⟩ ?_
  exact ⟨hz, its', n', r, e⟩
noncomputable def rSetL : V → V → V → Hp → (Hp → Prop) → Prop := fun o i v H Q => ∃ p xs k j, o = .ref p ∧ i = .int k ∧ H p = some (.lst xs) ∧ ixN xs.length k = some j ∧ Q (upd H p (.lst (xs.set j v)))
theorem set_list : PSet X rSetL := by
  intro pins s σ H o i v ov iv u Q I ro ri rv h
  obtain ⟨p, xs, k, j, rfl, rfl, hp, hj, q⟩ := h
  cases ro
  obtain ⟨t, rfl⟩ := ri
  obtain ⟨its, n, r, ho, hz⟩ := I.lst hp
  obtain ⟨h1, h2, h3, h4⟩ := ixN_seq hj
  have hl := r.length
  have hn := line63
  have I' : Inv X pins σ (upd H p (.lst (xs.set j v))) { s with heap := s.heap.update p (Obj.mapSeq (·.setIfInBounds j u)) } :=
    I.lstUpd hp ho (mapSeq_set its n j u) (r.set rv j) (by rw [List.length_set]; exact hz) s.toks
  by_cases h0 : 0 ≤ k
  · have hk : k.toNat = j := by
      rw [seqIndex_of h0 h4] at h1
      exact Option.some.inj h1
    exact PySem.W.ki_setAt ho h0 (by omega) (by rw [List.size_toArray, ← hl]; exact h4) (by rw [hk]; exact ⟨_, I', q⟩)
  · have hk : (k + (its.toArray.size : Int)).toNat = j := by
      rw [seqIndex_neg (by omega) h3] at h1
      rw [List.size_toArray, ← hl]
      exact Option.some.inj h1
    exact PySem.W.ki_setBack ho (by omega) (by rw [List.size_toArray, ← hl]; exact h3) (by omega) (by rw [hk]; exact ⟨_, I', q⟩)
theorem slice_bounds (lo hi : Option Int) (n : Nat) : (sliceBounds lo hi none n).1 = ((HT.sIx n 0 lo : Nat) : Int) ∧ (sliceBounds lo hi none n).2.1 = ((HT.sIx n n hi : Nat) : Int) ∧ (sliceBounds lo hi none n).2.2 = 1 := by
  refine ⟨?_, ?_, rfl⟩
  · cases lo with
    | none => simp [sliceBounds, HT.sIx]
    | some i =>
      simp only [sliceBounds, HT.sIx, Option.getD_none, show (1 : Int) > 0 by decide, if_true]
      by_cases h : i < 0
      · simp only [h, if_true] <;> omega
      · simp only [h, if_false] <;> omega
  · cases hi with
    | none => simp [sliceBounds, HT.sIx]
    | some i =>
      simp only [sliceBounds, HT.sIx, Option.getD_none, show (1 : Int) > 0 by decide, if_true]
      by_cases h : i < 0
      · simp only [h, if_true] <;> omega
      · simp only [h, if_false] <;> omega
theorem slicePick_cut (its : List Value) (lo hi : Option Int) : slicePick its.toArray lo hi none = ((its.drop (HT.sIx its.length 0 lo)).take (HT.sIx its.length its.length hi - HT.sIx its.length 0 lo)).toArray := by
  obtain ⟨h1, h2, h3⟩ := slice_bounds lo hi its.toArray.size
  unfold slicePick
  rw [h1, h2, h3]
  simp only [sliceRange_one, pick_run, List.size_toArray] <;> rfl
noncomputable def rSlL (K : PySem.W.Frag) : V → Option Int → Option Int → Hp → VK → Prop := fun x lo hi H Q => ∃ a xs, x = .ref a ∧ SqL K H a xs ∧ ∀ p, H p = none → Q (.ref p) (upd H p (.lst (cutV xs lo hi)))
theorem sl_list : SlR X (rSlL X.K) := by
  intro pins s σ H x v vl vu lo hi sl Q I rx hs pl pu h
  obtain ⟨a, xs, rfl, hx, q⟩ := h
  cases rx
  obtain ⟨its, r, ht, hz⟩ := I.list hx
  have hlen := r.length
  refine ⟨"list", _, slot_list_getitem.lookup, ht.isList.typeIs, ?_⟩
  refine wpAny_getItem_list_slice ht.isList hs pl pu .none (by simp) ?_ (by rw [List.size_toArray] <;> omega)
  rw [slicePick_cut, ← hlen]
  refine ⟨.ref s.heap.objs.size, _, I.laid (t' := s.toks) (o := .lst (cutV xs lo hi)) (fun b ob q => Heap.get?_push_of_some _ q) (Nat.le_refl _) ?_, rfl, q _ (I.hok.fresh (Nat.le_refl _))⟩
  exact ⟨Nat.le_trans (cutV_length xs lo hi) hz, _, 0, (r.drop (HT.sIx xs.length 0 lo)).take (HT.sIx xs.length xs.length hi - HT.sIx xs.length 0 lo), Heap.get?_push_size _ rfl⟩
theorem call_len_seq : CallR X (.builtin "len") (fun xs H Q => ∃ p ys, xs = [.ref p] ∧ (SqL X.K H p ys ∨ SqT X.K H p ys) ∧ Q (.int ys.length) H) := by
  intro pins s σ H xs us Q I r h
  obtain ⟨p, ys, rfl, hq, q⟩ := h
  obtain ⟨u, rfl, rx⟩ := vals1 r
  cases rx
  have hn := line63
  rcases hq with hq | hq
  · obtain ⟨its, r', pl, hz⟩ := I.list hq
    have hlen := r'.length
    exact Calls.call_len_list pl.isList (by simp only [List.size_toArray] <;> omega) ⟨.int ys.length, H, I.tok _, ⟨s.toks + 1, by rw [List.size_toArray, hlen]⟩, q⟩
  · obtain ⟨its, r', pl, hz⟩ := I.tuple hq
    have hlen := r'.length
    exact len_tuple pl (by simp only [List.size_toArray] <;> omega) ⟨.int ys.length, H, I.tok _, ⟨s.toks + 1, by rw [List.size_toArray, hlen]⟩, q⟩
theorem call_len_str : CallR X (.builtin "len") (fun xs H Q => ∃ z, xs = [.str z] ∧ z.length ≤ sizeLine ∧ Q (.int z.length) H) := by
  intro pins s σ H xs us Q I r h
  obtain ⟨z, rfl, hz, q⟩ := h
  obtain ⟨u, rfl, t, rfl⟩ := vals1 r
  have hn := line63
  exact len_str (by omega) ⟨.int z.length, H, I.tok _, ⟨_, rfl⟩, q⟩
theorem CallR.or {f : Value} {r r' : List V → Hp → VK → Prop} (h : CallR X f r) (h' : CallR X f r') : CallR X f (fun xs H Q => r xs H Q ∨ r' xs H Q) := by
  intro pins s σ H xs us Q I rs q
  rcases q with q | q
  · exact h pins s σ H xs us Q I rs q
  · exact h' pins s σ H xs us Q I rs q
theorem call_list_of : CallR X (.type "list") (fun xs H Q => ∃ p ys, xs = [.ref p] ∧ (SqL X.K H p ys ∨ SqT X.K H p ys) ∧ ∀ l, H l = none → Q (.ref l) (upd H l (.lst ys))) := by
  intro pins s σ H xs us Q I r h
  obtain ⟨p, ys, rfl, hq, q⟩ := h
  obtain ⟨u, rfl, rx⟩ := vals1 r
  cases rx
  have fin : ∀ (its : List Value), Vals ys its → ys.length ≤ sizeLine → ∀ (h' : Heap) (c' : Nat), (∀ b o', s.heap.get? b = some o' → h'.get? b = some o') →
      h'.get? s.heap.objs.size = some { cls := .type "list", dict := none, data := .seq its.toArray c', slots := #[] } → EP X pins σ Q (.ref s.heap.objs.size) { s with heap := h' } := fun its r' hz h' c' kp e =>
    ⟨.ref s.heap.objs.size, _, I.laid (t' := s.toks) kp (Nat.le_refl _) (show ObjOk X.prog X.w _ h' _ (.lst ys) from ⟨hz, its, c', r', e⟩), rfl, q _ (I.hok.fresh (Nat.le_refl _))⟩
  rcases hq with hq | hq
  · obtain ⟨its, r', pl, hz⟩ := I.list hq
    have hlen := r'.length
    obtain ⟨o, ho, hc, n, hd⟩ := pl.isList
    exact call_list_seq p (.inl rfl) ho hc hd (fun h' c' kp e => fin its r' hz h' c' kp e) (by simp only [List.size_toArray] <;> omega)
  · obtain ⟨its, r', pl, hz⟩ := I.tuple hq
    have hlen := r'.length
    obtain ⟨o, ho, hc, n, hd⟩ := pl
    exact call_list_seq p (.inr rfl) ho hc hd (fun h' c' kp e => fin its r' hz h' c' kp e) (by simp only [List.size_toArray] <;> omega)
noncomputable def tyV (K : PySem.W.Frag) (T : String) (x : V) (H : Hp) : Prop := match x with
  | .str _ => T = "str"
  | .int _ => T = "int"
  | .ref p => (T = "list" ∧ ∃ xs, SqL K H p xs) ∨ (T = "tuple" ∧ ∃ o, K.lookup p = some o ∧ o.cls = .type "tuple" ∧ o.dict = none) ∨
      (T = "dict" ∧ ((∃ kvs, H p = some (.dK kvs)) ∨ ∃ kvs, H p = some (.dT kvs))) ∨ (T = "set" ∧ ∃ S n, H p = some (.set S n))
  | _ => False
theorem tyV_is {pins : List (Addr × Obj)} {σ : St} {H : Hp} {s : Shared} {T : String} {x : V} {v : Value} (I : Inv X pins σ H s) (r : RelV x v) (ty : tyV X.K T x H) :
    s.TypeIs v T ∧ ∀ a, v = .ref a → ∃ ob, s.heap.get? a = some ob ∧ ob.dict = none := by
  cases x with
  | str z =>
    obtain ⟨t, rfl⟩ := r
    cases (show T = "str" from ty)
    exact ⟨typeIs_str s z t, fun _ e => nomatch e⟩
  | int i =>
    obtain ⟨t, rfl⟩ := r
    cases (show T = "int" from ty)
    exact ⟨typeIs_int s i t, fun _ e => nomatch e⟩
  | ref p =>
    cases r
    rcases ty with ⟨rfl, xs, hq⟩ | ⟨rfl, o, hk, hc, hd⟩ | ⟨rfl, hk⟩ | ⟨rfl, S, n, hk⟩
    · obtain ⟨its, _, pl, _⟩ := I.list hq
      refine ⟨pl.isList.typeIs, fun a e => ?_⟩
      cases e
      obtain ⟨o, n, e, c, hd, _⟩ := pl
      exact ⟨o, e, hd⟩
    · refine ⟨⟨o, I.kIn p o hk, hc⟩, fun a e => ?_⟩
      cases e
      exact ⟨o, I.kIn _ o hk, hd⟩
    · have z : ∃ o, s.heap.get? p = some o ∧ o.ExactDict := by
        rcases hk with ⟨kvs, hk⟩ | ⟨kvs, hk⟩
        · obtain ⟨_, _, _, _, o, _, _, e, ex, _⟩ := I.hok p _ hk
          exact ⟨o, e, ex⟩
        · obtain ⟨_, _, _, _, o, _, _, e, ex, _⟩ := I.hok p _ hk
          exact ⟨o, e, ex⟩
      obtain ⟨o, e, ex⟩ := z
      refine ⟨⟨o, e, ex.1⟩, fun a e2 => ?_⟩
      cases e2
      exact ⟨o, e, ex.2.1⟩
    · obtain ⟨o, _, _, _, e, ex, _⟩ := I.hok p _ hk
      refine ⟨⟨o, e, ex.1⟩, fun a e2 => ?_⟩
      cases e2
      exact ⟨o, e, ex.2.1⟩
  | _ => exact False.elim ty
noncomputable def tBM0 (K : PySem.W.Frag) (T : String) (r : V → List V → Hp → VK → Prop) (to : TE) : TE := fun σ H Q => to σ H fun x H1 => tyV K T x H1 ∧ r x [] H1 Q
noncomputable def tBM (K : PySem.W.Frag) (T : String) (r : V → List V → Hp → VK → Prop) (to : TE) (t : TA) : TE := fun σ H Q => to σ H fun x H1 => tyV K T x H1 ∧ t σ H1 fun xs H2 => r x xs H2 Q
variable {o e : Expr} {es : List Expr} {to : TE} {t : TA} {name : Str} {apos cpos : Pos} {T id : String} {r : V → List V → Hp → VK → Prop}
theorem pe_bm0 (pa : PlainAttrs T) (slot : Slot T name id) (hty : typeOf (.builtin id) = pure (.type "method_descriptor")) (hm : MtR X id r) (ho : PE X o to)
    (hbase : attributeBase o name X.env (eval o X.env) = eval o X.env := by rfl) (hline : (apos.endLine == cpos.line) = true := by rfl) : PE X (.Call (.Attribute o name apos) [] [] cpos) (tBM0 X.K T r to) := by
  intro pins s σ H Q I h
  refine wpAny_Call_method0_late hbase hline (thn (ho pins s σ H _ I h) fun v s1 ⟨x, H1, I1, r1, ty, q1⟩ => ?_)
  obtain ⟨h1, h2⟩ := tyV_is I1 r1 ty
  exact ⟨T, id, pa, slot, hty, h1, h2, Calls.callWith_builtin rfl (PySem.evalArgs_none (hm pins s1 σ H1 x [] v [] Q I1 r1 .nil q1))⟩
theorem pe_bm (pa : PlainAttrs T) (slot : Slot T name id) (hty : typeOf (.builtin id) = pure (.type "method_descriptor")) (hm : MtR X id r) (ho : PE X o to) (ha : PA X (e :: es) t)
    (hbase : attributeBase o name X.env (eval o X.env) = eval o X.env := by rfl)
    (hfew : ((backTo cpos (starEach (e :: es) X.env)).all (fun x => !x.1) && (backToKw cpos (keywordEach [] X.env)).all (fun x => x.1.isSome)
      && decide ((e :: es).length + ([] : List Keyword).length + (if ([] : List Keyword).isEmpty then 0 else 1) < 30)) = true := by rfl)
    (hline : (apos.endLine == cpos.line) = true := by rfl) (hs : starEach (e :: es) X.env = (false, eval e X.env) :: starEach es X.env := by rfl) (hplain : (backTo cpos (starEach es X.env)).any (·.1) = false := by rfl) :
    PE X (.Call (.Attribute o name apos) (e :: es) [] cpos) (tBM X.K T r to t) := by
  intro pins s σ H Q I h
  refine wpAny_Call_method_late hbase hfew hline rfl (thn (ho pins s σ H _ I h) fun v s1 ⟨x, H1, I1, r1, ty, q1⟩ => ?_)
  obtain ⟨h1, h2⟩ := tyV_is I1 r1 ty
  refine ⟨T, id, pa, slot, hty, h1, h2, ?_⟩
  have hA := ha cpos pins s1 σ H1 _ I1 q1
  rw [hs] at hA ⊢
  refine Calls.callWith_builtin (by show (false || (backTo cpos (starEach es X.env)).any (·.1)) = false; rw [hplain] <;> rfl) (Calls.evalArgs_plain ?_)
  exact thn hA fun us s2 ⟨vs, H2, I2, r2, q2⟩ => hm pins s2 σ H2 x vs v us Q I2 r1 r2 q2
end
end L2
namespace L2
open PySem PySem.Spec PyProof.Rows
noncomputable def MtM (X : Cx) (id : String) (r : V → List V → Hp → VK → Prop) : Prop :=
  ∀ (pins : List (Addr × Obj)) (s : Shared) (σ : St) (H : Hp) (x : V) (xs : List V) (v : Value) (us : List Value) (Q : VK), Inv X pins σ H s → RelV x v → Vals xs us → r x xs H Q →
    wpAny (model X.prog X.w) X.A (call (.builtin id) (v :: us)) (EP X pins σ Q) X.xe s
theorem Vals.one : ∀ {x : V} {us : List Value}, Vals [x] us → ∃ u, us = [u] ∧ RelV x u
  | _, _, .cons r .nil => ⟨_, rfl, r⟩
theorem Vals.two : ∀ {x y : V} {us : List Value}, Vals [x, y] us → ∃ u v, us = [u, v] ∧ RelV x u ∧ RelV y v
  | _, _, _, .cons r (.cons q .nil) => ⟨_, _, rfl, r, q⟩
theorem Vals.zero : ∀ {us : List Value}, Vals [] us → us = []
  | _, .nil => rfl
theorem Vals.dropLast {xs : List V} {us : List Value} (h : Vals xs us) : Vals xs.dropLast us.dropLast := by
  induction h with
  | nil => exact .nil
  | cons r t ih =>
    cases t with
    | nil => exact .nil
    | cons q t' => exact .cons r ih
theorem Vals.eraseIdx : ∀ {xs : List V} {us : List Value} (i : Nat), Vals xs us → Vals (xs.eraseIdx i) (us.eraseIdx i)
  | _, _, _, .nil => .nil
  | _, _, 0, .cons _ t => t
  | _, _, i + 1, .cons r t => .cons r (Vals.eraseIdx i t)
theorem Vals.reverse {xs : List V} {us : List Value} (h : Vals xs us) : Vals xs.reverse us.reverse := by
  induction h with
  | nil => exact .nil
  | cons r t ih => rw [List.reverse_cons, List.reverse_cons]; exact Vals.append ih (.cons r .nil)
theorem Vals.rep {xs : List V} {us : List Value} (h : Vals xs us) : ∀ k : Nat, Vals (List.replicate k xs).flatten (List.replicate k us).flatten
  | 0 => .nil
  | k + 1 => by
    rw [List.replicate_succ, List.replicate_succ, List.flatten_cons, List.flatten_cons]
    exact Vals.append h (Vals.rep h k)
theorem erase_last {α : Type} (l : List α) : l.eraseIdx (l.length - 1) = l.dropLast := by
  induction l with
  | nil => rfl
  | cons a r ih =>
    cases r with
    | nil => rfl
    | cons b r =>
      have e : (a :: b :: r).length - 1 = ((b :: r).length - 1) + 1 := by
        have h1 : (a :: b :: r).length = r.length + 2 := rfl
        have h2 : (b :: r).length = r.length + 1 := rfl
        omega
      rw [e, List.eraseIdx_cons_succ, ih]
      all_goals rfl
section
variable {X : Cx} {pins : List (Addr × Obj)} {σ : St} {H : Hp} {s : Shared} {l b : Addr} {xs ys zs : List V}
theorem Inv.lset {its its' : List Value} {n : Nat} {f : Array Value → Array Value} {t' : Nat} (I : Inv X pins σ H s) (hH : H l = some (.lst xs))
    (e : s.heap.get? l = some { cls := .type "list", data := .seq its.toArray n }) (hf : f its.toArray = its'.toArray) (hv : Vals ys its') (hz : ys.length ≤ sizeLine) :
    Inv X pins σ (upd H l (.lst ys)) { s with heap := s.heap.update l (Obj.mapSeq f), toks := t' } := by
  have q := PySem.IsL.update e f
  rw [hf] at q
  refine I.write (x := l) (e := l) (by rw [hH]; exact trivial) (.inl rfl) (fun b' u hb hu => (Heap.get?_update_other s.heap (Obj.mapSeq f) (Ne.symm hb)).trans hu) ⟨_, q⟩ ?_
  exact ⟨hz, its', _, hv, q⟩
theorem Inv.lnew {its : List Value} {t' : Nat} (I : Inv X pins σ H s) (hv : Vals ys its) (hz : ys.length ≤ sizeLine) :
    Inv X pins σ (upd H s.heap.objs.size (.lst ys)) { s with heap := s.heap.push { cls := .type "list", data := .seq its.toArray }, toks := t' } :=
  I.laid (fun _ _ q => Heap.get?_push_of_some _ q) (Nat.le_refl _) ⟨hz, its, 0, hv, Heap.get?_push_size _ rfl⟩
theorem Inv.fresh (I : Inv X pins σ H s) : H s.heap.objs.size = none := I.hok.fresh (Nat.le_refl _)
theorem Inv.lstM (I : Inv X pins σ H s) (hH : H l = some (.lst xs)) : xs.length ≤ sizeLine ∧ ∃ (its : List Value) (n : Nat), Vals xs its ∧ xs.length = its.length ∧ s.heap.get? l = some { cls := .type "list", data := .seq its.toArray n } := by
  obtain ⟨z, its, n, r, e⟩ := I.hok l _ hH
  exact ⟨z, its, n, r, r.length, e⟩
end
section
variable {X : Cx}
noncomputable def rAppend : V → List V → Hp → VK → Prop := fun x vs H Q => ∃ l xs y, x = .ref l ∧ vs = [y] ∧ H l = some (.lst xs) ∧ xs.length < sizeLine ∧ Q .non (upd H l (.lst (xs ++ [y])))
theorem mt_append : MtM X "list.append" rAppend := by
  intro pins s σ H x vs v us Q I rx rv h
  obtain ⟨l, xs, y, rfl, rfl, hH, hz, q⟩ := h
  cases rx
  obtain ⟨u, rfl, ru⟩ := rv.one
  obtain ⟨z, its, n, r, hl, e⟩ := I.lstM hH
  refine call_meets F.slot_list_append ⟨_, e, rfl⟩ F.entry_list_append (F.args_list_append_2 _ _) (PySem.list_append l its.toArray n u (by rw [List.size_toArray]; omega)) ⟨e, ?_⟩
  refine ⟨.non, _, I.lset (its' := its ++ [u]) hH e (by simp) (r.append (.cons ru .nil)) ?_, rfl, q⟩
  rw [List.length_append, List.length_singleton]
  omega
noncomputable def rPop : V → List V → Hp → VK → Prop := fun x vs H Q => ∃ l xs y, x = .ref l ∧ vs = [] ∧ H l = some (.lst xs) ∧ xs[xs.length - 1]? = some y ∧ Q y (upd H l (.lst xs.dropLast))
theorem mt_pop : MtM X "list.pop" rPop := by
  intro pins s σ H x vs v us Q I rx rv h
  obtain ⟨l, xs, y, rfl, rfl, hH, hy, q⟩ := h
  cases rx
  have hus := rv.zero
  subst hus
  obtain ⟨z, its, n, r, hl, e⟩ := I.lstM hH
  obtain ⟨u, hu, ru⟩ := r.get hy
  have hy' : its.toArray[its.toArray.size - 1]? = some u := by
    show its.toArray[its.length - 1]? = some u
    rw [← Array.getElem?_toList, ← hl]
    exact hu
  refine call_meets F.slot_list_pop ⟨_, e, rfl⟩ F.entry_list_pop (F.args_list_pop_1 _) (MeetsSeq.list_pop_last l its.toArray n u hy' (by rw [List.size_toArray]; omega)) ⟨e, ?_⟩
  refine ⟨y, _, I.lset (its' := its.dropLast) hH e ?_ r.dropLast ?_, ru, q⟩
  · show its.toArray.eraseIdxIfInBounds (its.toArray.size - 1) = its.dropLast.toArray
    rw [List.size_toArray, List.eraseIdxIfInBounds_toArray, erase_last]
  · rw [List.length_dropLast]
    omega
theorem len_rep {α : Type} (xs : List α) (k : Nat) : (List.replicate k xs).flatten.length = k * xs.length := by
  induction k with
  | zero => simp
  | succ k ih => rw [List.replicate_succ, List.flatten_cons, List.length_append, ih, Nat.succ_mul, Nat.add_comm]
end
end L2
namespace Att
open PySem PySem.W PySem.Calls PyProof.Rows
theorem ints_of_wellAll {P : Params} {h : Heap} : ∀ (ns : List Int) (vs : List Value), WellAll P h vs (ns.map WData.int) → IntsAre vs ns := by
  intro ns
  induction ns with
  | nil =>
    intro vs w
    rw [List.map_nil] at w
    cases w
    exact .nil
  | cons n ns ih =>
    intro vs w
    rw [List.map_cons] at w
    cases w with
    | cons a b =>
      cases a
      exact .cons _ _ (ih _ b)
theorem script_of {l : OpenLaw} {n : Nat} (hn : l.most = some n) {P : Params} {h : Heap} {args : List WData} {vals : List Value}
    (hpre : l.row.toRowW.claim.pre args = true) (hwl : WellAll P h vals args) :
    ∃ a vs ns, vals = [Value.ref a] ∧ args = [WData.list (ns.map WData.int)] ∧ h.get? a = some { cls := .type "list", data := .seq vs.toArray } ∧ IntsAre vs ns ∧ ns.length ≤ n := by
  have hsh : WShape.hasAll [] args [.list .int] = true := (pre_splitW hpre).1
  have hc : l.pre.holds [] { args := args } = true := (pre_splitW hpre).2
  obtain ⟨d, r, rfl, h1, h2⟩ := hasAllW_cons hsh
  obtain rfl := hasAllW_nil h2
  obtain ⟨xs, rfl, h3⟩ := hasW_list h1
  obtain ⟨ns, rfl⟩ := items_int h3
  have hlen : ns.length ≤ n := by
    unfold OpenLaw.pre at hc
    have h4 : (WTm.not (.lt (.lit (.int (n : Int))) (.len (.arg 0)))).holds [] { args := [.list (ns.map .int)] } = true := by
      have h4 := (holds_andW hc).1
      rw [hn] at h4
      exact h4
    have h5 := condW_of h4 (w_not (w_lt w_lit (w_len_list (w_arg rfl))))
    rw [List.length_map] at h5
    refine Nat.le_of_not_lt fun q => ?_
    have q' : (n : Int) < ((ns.length : Nat) : Int) := by omega
    first
      | (rw [decide_eq_true q'] at h5; exact absurd h5 (by decide))
      | (simp at h5; omega)
  cases hwl with
  | cons w1 w2 =>
    cases w2
    cases w1 with
    | list ho hall => exact ⟨_, _, ns, rfl, rfl, ho, ints_of_wellAll ns _ hall, hlen⟩
theorem post_true (l : OpenLaw) (args : List WData) : l.row.toRowW.claim.post args (.bool true) args = true :=
  postW_of (r := l.row.toRowW) (X := (true == true))
    (show WShape.has [] (.bool true) .bool = true by first | rfl | decide | simp [WShape.has, WShape.arms, WShape.armsAll])
    (show (WTm.eq .res (.lit (.bool true))).value [] { args := args, res := some (.bool true), after := args } = some (.bool (true == true)) from w_eq_bool (w_res rfl) w_lit) rfl
theorem attach_call {l : OpenLaw} {n : Nat} {q : Program} {loose : List Str} {XP : (Str → Option Value) → Heap → Prop} {YP : World → Heap → Prop} {d : DefRec}
    (hn : l.most = some n) (hdf : d.params.defaults = [])
    (call : ∀ (w : World) (s₀ s₁ : Shared) (mg mb : Str → Option Value) (fa : Addr) (o : Obj) (pm cd doc : Value) (a : Addr) (vs : List Value) (ns : List Int),
      Ground q loose [] XP w s₀ mg mb s₁.heap → YP w s₁.heap →
      s₁.heap.get? fa = some o → o.data = .func (docDef d.name d.params d.body d.scope pm cd doc) → s₁.heap.CodeRec cd d.name → mg d.name = some (.ref fa) →
      s₁.heap.get? a = some { cls := .type "list", data := .seq vs.toArray } → IntsAre vs ns → ns.length ≤ n → s₁.gens = #[] →
      codeAny (model l.prog w) callerA (.call (.ref fa) ⟨[.ref a], []⟩) (fun r s' => r = .ok (.ret (.bool true)) ∧ OldK s₁.heap s'.heap ∧ s'.os = s₁.os ∧ AllBare s'.gens) s₁) :
    WalkO q loose XP YP l.row.toRowW d [] (fun f vs => PySem.call f vs) := by
  intro w s₀ s₁ mg mb G Y fa o pm cd doc dV kV ho hd hcd hD hmg hg args vals as hpre hlay hrd hwl hlo
  obtain rfl : dV = .none := Dflts.none hD hdf
  obtain rfl : kV = .none := Dflts.noKw hD
  obtain ⟨a, vs, ns, rfl, rfl, hobj, hints, hlen⟩ := script_of hn hpre hwl
  refine enter_call (codeAny_mono (call w s₀ s₁ mg mb fa o pm cd doc a vs ns G Y ho (fd_plain hd) hcd hmg hobj hints hlen hg) fun r s' hq => ?_)
  obtain ⟨rfl, h2, h3, h4⟩ := hq
  exact ⟨.inl ⟨.bool true, .bool true, [], rfl, fun _ => rfl, .bool true, post_true l _, fun _ => ⟨List.Pairwise.nil, fun _ hm => (nomatch hm)⟩⟩, h2, h3, h4⟩
end Att
namespace L2
open PySem PySem.Spec PyProof.Rows
theorem vals_ints : ∀ {vs : List Value} {ns : List Int}, IntsAre vs ns → Vals (ns.map V.int) vs
  | _, _, .nil => .nil
  | _, _, .cons n t h => .cons ⟨t, rfl⟩ (vals_ints h)
noncomputable def Only (H : Hp) : Prop := ∀ b, H b = none ∨ ∃ o xs, H b = some (.frz o (.lst xs))
theorem law_call {P : Program} {w : World} {K : PySem.W.Frag} {mg mb : Str → Option Value} {CX : CXT} {k : Nat} {fa a : Addr} {fd : FuncData} {x : Str} {sp : Sp} {s₁ : Shared} {vs : List Value} {ns : List Int}
    (KX : K.In s₁.heap) (hns : s₁.heap.Ns mainGlobals mg) (hb : s₁.heap.Ns builtinsNs mb) (hbb : ∀ x : Str, x ≠ "__name__" → mb x = bootBuiltins x) (hlim : s₁.heap.NoLimit) (hg : s₁.gens = #[])
    (ha : s₁.heap.get? a = some { cls := .type "list", data := .seq vs.toArray }) (hi : IntsAre vs ns) (hl : ns.length ≤ sizeLine) (hr : Room k callerA)
    (F : ∀ base : Heap, K.In base → base.Ns mainGlobals mg → FnOk P w K mg base CX k fa fd [x] sp) (hbind : ∀ (s : Shared) (u : Value), BindsTo s fd ⟨[u], []⟩ [(x, u)])
    (hsp : ∀ H : Hp, Only H → SqL K H a (ns.map V.int) → sp [.ref a] H (fun v _ => v = .bl true) fun _ _ _ => False)
    (hCX : ∀ H e s', CX [] H s₁ (fun _ _ _ => False) e s' → False) :
    codeAny (model P w) callerA (.call (.ref fa) ⟨[.ref a], []⟩) (fun r s' => r = .ok (.ret (.bool true)) ∧ OldK s₁.heap s'.heap ∧ s'.os = s₁.os ∧ AllBare s'.gens) s₁ := by
  have rv := vals_ints hi
  have lenV := hi.length
  -- from an abstract heap in which nothing but the script may be tracked
  have core : ∀ H : Hp, Only H → SqL K H a (ns.map V.int) → HOk P w H s₁.heap → (∀ b, H b ≠ none → b = a) → (H a ≠ none → K.lookup a = none) →
      codeAny (model P w) callerA (.call (.ref fa) ⟨[.ref a], []⟩) (fun r s' => r = .ok (.ret (.bool true)) ∧ OldK s₁.heap s'.heap ∧ s'.os = s₁.os ∧ AllBare s'.gens) s₁ := by
    intro H hO hS hok hA hK
    have base_of : ∀ {b : Addr} {o : Obj}, s₁.heap.get? b = some o → H b = none → (hidT s₁.heap H).get? b = some o := fun e n => hidT_get e n
    have noA : ∀ {b : Addr} {o : Obj} {es : Array DictEntry} {ep : Nat}, s₁.heap.get? b = some o → o.data = .dict es ep → H b = none := fun {b o es ep} e d => by
      cases q : H b with
      | none => rfl
      | some u =>
        have e' : b = a := hA b (by rw [q]; simp)
        subst e'
        rw [ha] at e; cases e
        have d' : Data.seq vs.toArray _ = Data.dict es ep := d
        cases d'
    have nsK : ∀ {b : Addr} {m : Str → Option Value}, s₁.heap.Ns b m → (hidT s₁.heap H).Ns b m := fun {b m} ⟨o, es, ep, e, d, r⟩ => ⟨o, es, ep, base_of e (noA e d), d, r⟩
    have hKb : K.In (hidT s₁.heap H) := fun b o e => base_of (KX b o e) (by
      cases q : H b with
      | none => rfl
      | some u =>
        have e' : b = a := hA b (by rw [q]; simp)
        subst e'
        rw [hK (by rw [q]; simp)] at e; cases e)
    have hM : Mod K mg (hidT s₁.heap H) := ⟨hKb, nsK hns, ⟨mb, nsK hb, hbb⟩, let ⟨mc, h1, h2⟩ := hlim; ⟨mc, nsK h1, h2⟩⟩
    have e0 : Env0 P w K mg (hidT s₁.heap H) callerA [] s₁ H := ⟨rfl, hM, fun b o e => of_hidT e, Nat.le_of_eq (hidT_size _ _), trivial, fun b hb => absurd (show b ∈ ([] : List Addr) from hb) (by simp), hok, .of_eq hg⟩
    refine codeAny_mono ((F _ hKb (nsK hns)).run callerA [] s₁ H ⟨[.ref a], []⟩ [.ref a] [.ref a] _ _ hr e0 (hbind s₁ (.ref a)) (.cons rfl .nil) (hsp H hO hS)) fun r s' h => ?_
    cases r with
    | error e => exact (hCX H e s' h).elim
    | ok fl =>
      cases fl with
      | next => exact False.elim h
      | brk => exact False.elim h
      | cont => exact False.elim h
      | ret u =>
        obtain ⟨v, H', os, bare, un, hok', r', q⟩ := h
        have q' : v = .bl true := q
        subst q'
        obtain rfl : u = Value.bool true := r'
        refine ⟨rfl, OldK.of_keep fun b o e => ?_, os, bare⟩
        cases q : H b with
        | none => exact un.keep b o e q (by intro z; exact absurd (show b ∈ ([] : List Addr) from z) (by simp)) (by simp)
        | some u =>
          rcases hO b with z | ⟨ob, xs, z⟩
          · rw [q] at z; cases z
          · have z2 := un.frzs b ob _ z
            obtain ⟨e1, _⟩ := hok b _ z
            obtain ⟨e2, _⟩ := hok' b _ z2
            rw [e] at e1; cases e1
            exact e2
  cases hk : K.lookup a with
  | some o =>
    -- the script is one of the module's own objects
    have e := KX a o hk
    rw [ha] at e
    cases e
    refine core (fun _ => none) (fun _ => .inl rfl) (.inr ⟨_, vs.toArray, _, hk, rfl, rfl, rfl, by rw [List.size_toArray, lenV]; exact hl, by simpa using rv⟩) (fun b u z => by have z' : (none : Option HO) = some u := z; cases z') (fun b z => absurd rfl z) fun z => absurd rfl z
  | none =>
    refine core (fun b => if b = a then some (.frz { cls := .type "list", data := .seq vs.toArray } (.lst (ns.map V.int))) else none) (fun b => ?_) (.inl (.inr ⟨{ cls := .type "list", data := .seq vs.toArray }, if_pos rfl⟩)) (fun b u z => ?_) (fun b z => ?_) fun _ => hk
    · by_cases hb : b = a
      · exact .inr ⟨_, _, if_pos hb⟩
      · exact .inl (if_neg hb)
    · by_cases hb : b = a
      · have z' := (if_pos hb).symm.trans z
        cases z'
        subst hb
        exact ⟨ha, by rw [List.length_map]; exact hl, vs, _, rv, ha⟩
      · have z' := (if_neg hb).symm.trans z
        cases z'
    · by_cases hb : b = a
      · exact hb
      · exact absurd (if_neg hb) z
end L2
namespace L2
open PySem PySem.Spec PyProof.Rows
theorem walk_of {l : PySem.W.OpenLaw} {n k : Nat} {q : Program} {loose : List Str} {XP : (Str → Option Value) → Heap → Prop} {YP : World → Heap → Prop} {d : DefRec} {K : Params → PySem.W.Frag} {CX : World → CXT} {sp : World → Sp} {x : Str}
    (hn : l.most = some n) (hn2 : n ≤ sizeLine) (hdf : d.params.defaults = []) (hr : Room k callerA)
    (hY : ∀ (w : World) (h : Heap), YP w h → (K w.params).In h)
    (F : ∀ (w : World) (mg : Str → Option Value) (fa : Addr) (h : Heap), (K w.params).In h → h.Ns mainGlobals mg → mg d.name = some (.ref fa) →
      ∃ fd : FuncData, (∀ (s : Shared) (u : Value), BindsTo s fd ⟨[u], []⟩ [(x, u)]) ∧
        ∀ base : Heap, (K w.params).In base → base.Ns mainGlobals mg → FnOk l.prog w (K w.params) mg base (CX w) k fa fd [x] (sp w))
    (hsp : ∀ (w : World) (H : Hp) (a : Addr) (ns : List Int), ns.length ≤ n → Only H → SqL (K w.params) H a (ns.map V.int) → sp w [.ref a] H (fun v _ => v = .bl true) fun _ _ _ => False)
    (hCX : ∀ (w : World) (H : Hp) (s : Shared) (e : Value) (s' : Shared), CX w [] H s (fun _ _ _ => False) e s' → False) :
    PySem.W.WalkO q loose XP YP l.row.toRowW d [] (fun f vs => PySem.call f vs) := by
  refine Att.attach_call hn hdf fun w s₀ s₁ mg mb fa o pm cd doc a vs ns G Y ho hd hcd hmg hobj hints hlen hg => ?_
  have KX := hY w _ Y
  obtain ⟨fd, hb, hF⟩ := F w mg fa _ KX G.T.g hmg
  exact law_call KX G.T.g G.T.b G.T.builtins G.T.nolimit hg hobj hints (Nat.le_trans hlen hn2) hr hF hb (fun H hO hS => hsp w H a ns hlen hO hS) fun H e s' => hCX w H s₁ e s'
end L2
namespace L2
open PySem PySem.Spec PyProof.Rows
noncomputable def defArgs (s : Stmt) : Arguments := match s with
  | .FunctionDef _ a _ _ _ _ _ _ _ _ => a
  | _ => { posonlyargs := [], args := [], vararg := none, kwonlyargs := [], kw_defaults := [], kwarg := none, defaults := [] }
noncomputable def defBody (s : Stmt) : List Stmt := match s with
  | .FunctionDef _ _ b _ _ _ _ _ _ _ => b
  | _ => []
noncomputable def defScope (s : Stmt) : Scope := match s with
  | .FunctionDef _ _ _ _ _ _ sc _ _ _ => sc
  | _ => { kind := .function, names := [], isGenerator := false, isCoroutine := false }
noncomputable abbrev CX0 : CXT := fun _ _ _ _ _ _ => False
noncomputable abbrev E0 : XK := fun _ _ _ => False
theorem pass0 {X : Cx} : Passes CX0 X E0 := fun _ _ _ _ _ _ _ h => h.elim
structure Fun (K : PySem.W.Frag) (x qual : Str) (st : Stmt) (f : Addr) (fd : FuncData) : Prop where
  ex : ∃ (oc : Value) (od : Option Addr) (kV doc pm : Value) (an : Option Addr) (cdv ct : Value) (osl : Array (Option Value)),
    fd = PySem.W.fnOf x qual (defArgs st) (defBody st) (defScope st) .none kV doc pm an cdv ct ∧ K.lookup f = some ⟨oc, od, .func fd, osl⟩ ∧ PySem.W.codeIn K cdv qual = true
  kp : PySem.W.keepIn K (.ref f) = true
section
variable {P : Program} {w : World} {K : PySem.W.Frag} {mg : Str → Option Value} {base : Heap}
theorem Fun.ok {x qual : Str} {st : Stmt} {f : Addr} {fd : FuncData} {N ps : List Str} {k : Nat} {sp : Sp} (F : Fun K x qual st f fd) (S : FnScope N ps (defScope st)) (len : ∀ vs H Q E, sp vs H Q E → vs.length = ps.length)
    (hbody : ∀ (cdv : Value) (A : Around) (outer : List Env) (s : Shared) (H : Hp) (vs : List V) (Q : VK) (E : XK), Room k (A.deeper (envOfC qual (defScope st) s.heap.objs.size f cdv)) → sp vs H Q E →
      ∃ t, PSs (cxOf CX0 P w K mg base N qual (defScope st) f cdv A outer s H E).nox (defBody st) t ∧ t { nx := fun _ H' => Q .non H', rt := Q } (start N vs) H) : FnOk P w K mg base CX0 (k + 1) f fd ps sp := by
  obtain ⟨oc, od, kV, doc, pm, an, cdv, ct, osl, rfl, lk, hcd⟩ := F.ex
  refine fn_of lk hcd S len fun A outer s H vs Q E hr hsp => ?_
  obtain ⟨t, h, q⟩ := hbody cdv A outer s H vs Q E hr hsp
  exact ⟨t, h.nox, q⟩
theorem Fun.binds {x qual : Str} {st : Stmt} {f : Addr} {fd : FuncData} {ps : List Str} (F : Fun K x qual st f fd)
    (h : ∀ (kV doc pm : Value) (an : Option Addr) (cdv ct : Value) (us : List Value), us.length = ps.length → bindArgs (PySem.W.fnOf x qual (defArgs st) (defBody st) (defScope st) .none kV doc pm an cdv ct) ⟨us, []⟩ = pure (ps.zip us)) : Binds K fd ps [] := by
  obtain ⟨oc, od, kV, doc, pm, an, cdv, ct, osl, rfl, lk, hcd⟩ := F.ex
  exact .all (h kV doc pm an cdv ct)
theorem fun_mk {x qual : Str} {st : Stmt} {f : Addr} {oc : Value} {od an : Option Addr} {osl : Array (Option Value)} {kV doc pm cdv ct : Value} (l : K.lookup f = some ⟨oc, od, .func (PySem.W.fnOf x qual (defArgs st) (defBody st) (defScope st) .none kV doc pm an cdv ct), osl⟩)
    (c : PySem.W.codeIn K cdv qual = true) (k : PySem.W.keepIn K (.ref f) = true) : Fun K x qual st f (PySem.W.fnOf x qual (defArgs st) (defBody st) (defScope st) .none kV doc pm an cdv ct) := ⟨⟨oc, od, kV, doc, pm, an, cdv, ct, osl, rfl, l, c⟩, k⟩
end
section
variable {X : Cx}
theorem pv (i : Nat) {x : Str} {pos : Pos} (hN : X.N[i]? = some x := by rfl) (hv : Vis X.env.scope x := by first | exact Or.inl rfl | exact Or.inr (Or.inl rfl) | exact Or.inr (Or.inr rfl)) (hd : (x == ("__debug__" : Str)) = false := by decide)
    (hcd : (x == ("__classdict__" : Str)) = false := by decide) : PE X (.Name x pos) (tVar i) := pe_var hN hv hd hcd
end
noncomputable def Same (H H' : Hp) : Prop := ∀ b o, H b = some o → H' b = some o
theorem Same.refl (H : Hp) : Same H H := fun _ _ h => h
theorem Same.trans {H H1 H2 : Hp} (a : Same H H1) (b : Same H1 H2) : Same H H2 := fun c o h => b c o (a c o h)
theorem Same.free {H H' : Hp} (e : Same H H') {l : Addr} (h : H' l = Option.none) : H l = Option.none := by
  cases q : H l with
  | none => rfl
  | some o =>
    rw [e l o q] at h
    cases h
theorem Same.seq {K : PySem.W.Frag} {H H' : Hp} {a : Addr} {xs : List V} (e : Same H H') (h : SqL K H a xs) : SqL K H' a xs := by
  rcases h with (h | ⟨o, h⟩) | h
  · exact .inl (.inl (e _ _ h))
  · exact .inl (.inr ⟨o, e _ _ h⟩)
  · exact .inr h
end L2
namespace NH
section
variable {α : Type} [DecidableEq α]
noncomputable def stp (r : List (α × Int)) (p : α × Int) : List (α × Int) :=
  match r with
  | [] => if p.2 = 0 then [] else [p]
  | q :: r' => if q.1 = p.1 then (if q.2 + p.2 = 0 then r' else (p.1, q.2 + p.2) :: r') else (if p.2 = 0 then q :: r' else p :: q :: r')
noncomputable def stk (c : List (α × Int)) : List (α × Int) := c.foldl stp []
noncomputable def short (c : List (α × Int)) : List (α × Int) := (stk c).reverse
noncomputable def runs (c : List (α × Int)) : List (α × Int) := c.foldr (fun p r => stp r p) []
noncomputable def Red : List (α × Int) → Prop
  | [] => True
  | [p] => p.2 ≠ 0
  | p :: q :: r => p.2 ≠ 0 ∧ p.1 ≠ q.1 ∧ Red (q :: r)
theorem Red.tail {p : α × Int} {r : List (α × Int)} (h : Red (p :: r)) : Red r := by
  cases r with
  | nil => trivial
  | cons q r => exact h.2.2
theorem Red.head {p : α × Int} {r : List (α × Int)} (h : Red (p :: r)) : p.2 ≠ 0 := by
  cases r with
  | nil => exact h
  | cons q r => exact h.1
theorem Red.cons {p : α × Int} {r : List (α × Int)} (h0 : p.2 ≠ 0) (h1 : ∀ q ∈ r.head?, p.1 ≠ q.1) (h : Red r) : Red (p :: r) := by
  cases r with
  | nil => exact h0
  | cons q r => exact ⟨h0, h1 q rfl, h⟩
theorem Red.next {p : α × Int} {r : List (α × Int)} (h : Red (p :: r)) : ∀ q ∈ r.head?, p.1 ≠ q.1 := by
  cases r with
  | nil => intro q hq; cases hq
  | cons q r => intro q' hq; cases hq; exact h.2.1
theorem stp_red {r : List (α × Int)} (h : Red r) (p : α × Int) : Red (stp r p) := by
  cases r with
  | nil =>
    unfold stp
    by_cases h0 : p.2 = 0
    · simp [h0, Red]
    · simp [h0, Red]
  | cons q r =>
    show Red (if q.1 = p.1 then (if q.2 + p.2 = 0 then r else (p.1, q.2 + p.2) :: r) else (if p.2 = 0 then q :: r else p :: q :: r))
    by_cases e : q.1 = p.1
    · rw [if_pos e]
      by_cases z : q.2 + p.2 = 0
      · rw [if_pos z]; exact h.tail
      · rw [if_neg z]
        refine Red.cons z (fun s hs => ?_) h.tail
        rw [← e]; exact h.next s hs
    · rw [if_neg e]
      by_cases z : p.2 = 0
      · rw [if_pos z]; exact h
      · rw [if_neg z]; exact ⟨z, fun t => e t.symm, h⟩
theorem foldl_red : ∀ (c : List (α × Int)) {r : List (α × Int)}, Red r → Red (c.foldl stp r)
  | [], _, h => h
  | p :: c, _, h => foldl_red c (stp_red h p)
theorem stk_red (c : List (α × Int)) : Red (stk c) := foldl_red c trivial
theorem stp_zero {r : List (α × Int)} (h : Red r) (n : α) : stp r (n, 0) = r := by
  cases r with
  | nil => simp [stp]
  | cons q r =>
    have := h.head
    unfold stp
    by_cases e : q.1 = n
    · obtain ⟨a, b⟩ := q
      simp at e this
      subst e
      simp [this]
    · simp [e]
theorem stp_stp {r : List (α × Int)} (h : Red r) (n : α) (a b : Int) : stp (stp r (n, a)) (n, b) = stp r (n, a + b) := by
  cases r with
  | nil =>
    by_cases ha : a = 0
    · subst ha; simp [stp]
    · simp [stp, ha]
  | cons q r =>
    obtain ⟨m, u⟩ := q
    have hu : u ≠ 0 := h.head
    by_cases e : m = n
    · subst e
      by_cases z : u + a = 0
      · have e1 : stp ((m, u) :: r) (m, a) = r := by simp [stp, z]
        rw [e1]
        have ez : u + (a + b) = b := by omega
        have hn := h.next
        cases r with
        | nil =>
          by_cases hb : b = 0
          · subst hb; simp [stp]; omega
          · simp [stp, ez, hb]
        | cons s r =>
          have e2 : ¬ s.1 = m := fun t => hn s rfl t.symm
          by_cases hb : b = 0
          · subst hb; simp [stp, e2]; omega
          · simp [stp, ez, hb, e2]
      · have e1 : stp ((m, u) :: r) (m, a) = (m, u + a) :: r := by simp [stp, z]
        rw [e1]
        simp only [stp, if_true]
        rw [Int.add_assoc]
    · by_cases ha : a = 0
      · subst ha; simp [stp, e]
      · simp [stp, e, ha]
theorem stp_back {r : List (α × Int)} (h : Red r) (n : α) (a : Int) : stp (stp r (n, a)) (n, -a) = r := by
  rw [stp_stp h, Int.add_right_neg, stp_zero h]
noncomputable def contr (c : List (α × Int)) : List (α × Int) := c.reverse.map fun p => (p.1, -p.2)
theorem contr_cons (p : α × Int) (c : List (α × Int)) : contr (p :: c) = contr c ++ [(p.1, -p.2)] := by simp [contr]
theorem contr_contr (c : List (α × Int)) : contr (contr c) = c := by
  simp only [contr, List.map_reverse, List.reverse_reverse, List.map_map]
  conv => rhs; rw [← List.map_id c]
  refine List.map_congr_left fun p _ => ?_
  simp
theorem contr_length (c : List (α × Int)) : (contr c).length = c.length := by simp [contr]
theorem fold_back : ∀ (c : List (α × Int)) {r : List (α × Int)}, Red r → (c ++ contr c).foldl stp r = r
  | [], _, _ => rfl
  | p :: c, r, h => by
    rw [contr_cons, ← List.append_assoc, List.foldl_append]
    show stp ((c ++ contr c).foldl stp (stp r p)) (p.1, -p.2) = r
    rw [fold_back c (stp_red h p)]
    exact stp_back h p.1 p.2
theorem fold_back' (c : List (α × Int)) {r : List (α × Int)} (h : Red r) : (contr c ++ c).foldl stp r = r := by
  have := fold_back (contr c) h
  rwa [contr_contr] at this
noncomputable def sn (w : List (α × Int)) (p : α × Int) : List (α × Int) := (stp w.reverse p).reverse
noncomputable def hd2 (p x : α × Int) : List (α × Int) := if x.1 = p.1 then (if x.2 + p.2 = 0 then [] else [(p.1, x.2 + p.2)]) else (if p.2 = 0 then [x] else [p, x])
theorem stp_cons (p x : α × Int) (r : List (α × Int)) : stp (x :: r) p = hd2 p x ++ r := by
  show (if x.1 = p.1 then (if x.2 + p.2 = 0 then r else (p.1, x.2 + p.2) :: r) else (if p.2 = 0 then x :: r else p :: x :: r)) = hd2 p x ++ r
  unfold hd2
  by_cases e : x.1 = p.1
  · rw [if_pos e, if_pos e]; split <;> rfl
  · rw [if_neg e, if_neg e]; split <;> rfl
noncomputable def lt2 (x p : α × Int) : List (α × Int) := (hd2 p x).reverse
theorem sn_snoc (p x : α × Int) (r : List (α × Int)) : sn (r ++ [x]) p = r ++ lt2 x p := by
  unfold sn lt2
  rw [List.reverse_append, List.reverse_singleton, List.singleton_append, stp_cons, List.reverse_append, List.reverse_reverse]
theorem comm1 (p q : α × Int) (x : α × Int) (hx : x.2 ≠ 0) : stp (sn [x] q) p = sn (stp [x] p) q := by
  obtain ⟨n, a⟩ := p
  obtain ⟨k, b⟩ := q
  obtain ⟨m, u⟩ := x
  simp at hx
  by_cases e1 : m = n
  · subst e1
    by_cases e2 : m = k
    · subst e2
      by_cases z1 : u + a = 0 <;> by_cases z2 : u + b = 0
      · simp [stp, sn, z1, z2]
        have : a = b := by omega
        have ha : a ≠ 0 := by omega
        have hb : b ≠ 0 := by omega
        simp [ha, hb, this]
      · have hb : u + b + a = b := by omega
        by_cases b0 : b = 0
        · subst b0; simp [stp, sn, z1, hx]
        · simp [stp, sn, z1, z2, hb, b0]
      · have hb : u + a + b = a := by omega
        by_cases a0 : a = 0
        · subst a0; simp [stp, sn, z2, hx]
        · simp [stp, sn, z1, z2, hb, a0]
      · have hb : u + b + a = u + a + b := by omega
        by_cases z3 : u + a + b = 0
        · simp [stp, sn, z1, z2, hb, z3]
        · simp [stp, sn, z1, z2, hb, z3]
    · by_cases z1 : u + a = 0 <;> by_cases z2 : b = 0 <;> simp [stp, sn, e2, z1, z2]
  · by_cases e2 : m = k
    · subst e2
      by_cases z1 : u + b = 0 <;> by_cases z2 : a = 0 <;> simp [stp, sn, e1, z1, z2]
    · by_cases z1 : a = 0 <;> by_cases z2 : b = 0 <;> simp [stp, sn, e1, e2, z1, z2]
theorem comm0 (p q : α × Int) : stp (sn [] q) p = sn (stp [] p) q := by
  obtain ⟨n, a⟩ := p
  obtain ⟨k, b⟩ := q
  by_cases z1 : a = 0 <;> by_cases z2 : b = 0
  · simp [stp, sn, z1, z2]
  · by_cases e : k = n <;> simp [stp, sn, z1, z2, e]
  · by_cases e : n = k <;> simp [stp, sn, z1, z2, e]
  · by_cases e : k = n
    · subst e
      by_cases z : a + b = 0
      · have z' : b + a = 0 := by omega
        simp [stp, sn, z1, z2, z, z']
      · have z' : ¬ b + a = 0 := by omega
        simp [stp, sn, z1, z2, z, z']
        omega
    · have e' : ¬ n = k := fun t => e t.symm
      simp [stp, sn, z1, z2, e, e']
theorem comm (p q : α × Int) {w : List (α × Int)} (h : Red w) : stp (sn w q) p = sn (stp w p) q := by
  cases w with
  | nil => exact comm0 p q
  | cons x r =>
    rcases List.eq_nil_or_concat r with rfl | ⟨m, y, e⟩
    · exact comm1 p q x h
    · have e' : r = m ++ [y] := by rw [e] <;> simp
      subst e'
      have e1 : x :: (m ++ [y]) = (x :: m) ++ [y] := rfl
      have e2 : sn (x :: (m ++ [y])) q = x :: (m ++ lt2 y q) := by rw [e1, sn_snoc]; rfl
      rw [e2, stp_cons, stp_cons, ← List.append_assoc, ← List.append_assoc, sn_snoc]
theorem red_append_last : ∀ {m : List (α × Int)} {y z : α × Int}, Red (m ++ [y]) → z.2 ≠ 0 → y.1 ≠ z.1 → Red (m ++ [y] ++ [z])
  | [], y, z, h, h0, h1 => ⟨h, h1, h0⟩
  | [x], y, z, h, h0, h1 => ⟨h.1, h.2.1, red_append_last (m := []) h.2.2 h0 h1⟩
  | x :: x' :: m, y, z, h, h0, h1 => ⟨h.1, h.2.1, red_append_last (m := x' :: m) h.2.2 h0 h1⟩
theorem red_reverse : ∀ {w : List (α × Int)}, Red w → Red w.reverse
  | [], _ => trivial
  | [p], h => h
  | p :: q :: r, h => by
    have ih := red_reverse (w := q :: r) h.2.2
    rw [List.reverse_cons, List.reverse_cons]
    rw [List.reverse_cons] at ih
    exact red_append_last ih h.1 fun t => h.2.1 t.symm
theorem short_red (c : List (α × Int)) : Red (short c) := red_reverse (stk_red c)
theorem short_snoc (c : List (α × Int)) (p : α × Int) : short (c ++ [p]) = sn (short c) p := by
  unfold short stk sn
  rw [List.foldl_append, List.reverse_reverse]
  rfl
theorem short_cons (p : α × Int) : ∀ c : List (α × Int), short (p :: c) = stp (short c) p := by
  intro c
  induction hn : c.length generalizing c with
  | zero =>
    have : c = [] := List.length_eq_zero_iff.mp hn
    subst this
    simp [short, stk, stp]
    by_cases z : p.2 = 0 <;> simp [z]
  | succ n ih =>
    rcases List.eq_nil_or_concat c with rfl | ⟨m, y, e⟩
    · simp at hn
    · have e' : c = m ++ [y] := by rw [e] <;> simp
      subst e'
      have hm : m.length = n := by simp at hn; exact hn
      have e1 : p :: (m ++ [y]) = (p :: m) ++ [y] := rfl
      rw [e1, short_snoc, ih m hm, short_snoc, comm p y (short_red m)]
theorem short_eq_runs : ∀ c : List (α × Int), short c = runs c
  | [] => rfl
  | p :: c => by rw [short_cons, short_eq_runs c]; rfl
theorem short_back (c : List (α × Int)) : short (c ++ contr c) = [] := by
  unfold short stk; rw [fold_back c (r := []) trivial]; rfl
theorem short_back' (c : List (α × Int)) : short (contr c ++ c) = [] := by
  unfold short stk; rw [fold_back' c (r := []) trivial]; rfl
theorem stp_len (r : List (α × Int)) (p : α × Int) : (stp r p).length ≤ r.length + 1 := by
  cases r with
  | nil => by_cases z : p.2 = 0 <;> simp [stp, z]
  | cons q r => rw [stp_cons]; unfold hd2; split <;> split <;> simp <;> omega
theorem foldl_len : ∀ (c : List (α × Int)) (r : List (α × Int)), (c.foldl stp r).length ≤ r.length + c.length
  | [], r => by simp
  | p :: c, r => by
    have h1 := foldl_len c (stp r p)
    have h2 := stp_len r p
    simp only [List.foldl_cons, List.length_cons]
    omega
theorem short_len (c : List (α × Int)) : (short c).length ≤ c.length := by
  have := foldl_len c []
  simpa [short, stk] using this
end
end NH
namespace L2
open PySem PySem.Spec PyProof.Rows
theorem same_new {H : Hp} {p : Addr} (h : H p = none) (o : HO) : Same H (upd H p o) := fun b u q => by rw [upd_ne (ne_of_none q h)]; exact q
theorem Same.tup {K : PySem.W.Frag} {H H' : Hp} {a : Addr} {xs : List V} (e : Same H H') (h : SqT K H a xs) : SqT K H' a xs := by
  rcases h with (h | ⟨o, h⟩) | h
  · exact .inl (.inl (e _ _ h))
  · exact .inl (.inr ⟨o, e _ _ h⟩)
  · exact .inr h
noncomputable def SameBut (l : Addr) (H H' : Hp) : Prop := ∀ b o, b ≠ l → H b = some o → H' b = some o
theorem SameBut.upd {H : Hp} {l : Addr} (o : HO) : SameBut l H (upd H l o) := fun b u hb q => by rw [upd_ne hb]; exact q
theorem Same.but {H H' : Hp} (s : Same H H') (l : Addr) : SameBut l H H' := fun b o _ q => s b o q
theorem SameBut.trans {H H1 H2 : Hp} {l : Addr} (a : SameBut l H H1) (b : SameBut l H1 H2) : SameBut l H H2 := fun c o hc q => b c o hc (a c o hc q)
theorem SameBut.same {H H' : Hp} {l : Addr} (a : SameBut l H H') (h : H l = none) : Same H H' := fun b o q => a b o (ne_of_none q h) q
theorem SameBut.tup {K : PySem.W.Frag} {H H' : Hp} {l a : Addr} {xs ys : List V} (e : SameBut l H H') (hl : H l = some (.lst ys)) (h : SqT K H a xs) : SqT K H' a xs := by
  rcases h with (h | ⟨o, h⟩) | h
  · exact .inl (.inl (e _ _ (ne_of h hl (by intro z; cases z)) h))
  · exact .inl (.inr ⟨o, e _ _ (ne_of h hl (by intro z; cases z)) h⟩)
  · exact .inr h
mutual
inductive DOf (K : PySem.W.Frag) (H : Hp) : V → PyData → Prop
  | non : DOf K H .non .none
  | bl (b : Bool) : DOf K H (.bl b) (.bool b)
  | int (i : Int) : DOf K H (.int i) (.int i)
  | str (x : Str) : DOf K H (.str x) (.str x)
  | lst {a : Addr} {xs : List V} {ds : List PyData} : SqL K H a xs → DAll K H xs ds → DOf K H (.ref a) (.list ds)
  | tup {a : Addr} {xs : List V} {ds : List PyData} : SqT K H a xs → DAll K H xs ds → DOf K H (.ref a) (.tuple ds)
inductive DAll (K : PySem.W.Frag) (H : Hp) : List V → List PyData → Prop
  | nil : DAll K H [] []
  | cons {x : V} {xs : List V} {d : PyData} {ds : List PyData} : DOf K H x d → DAll K H xs ds → DAll K H (x :: xs) (d :: ds)
end
section
variable {X : Cx} {pins : List (Addr × Obj)} {σ : St} {H : Hp} {s : Shared}
mutual
theorem DOf.reads (I : Inv X pins σ H s) : ∀ {x : V} {d : PyData} {u : Value}, DOf X.K H x d → RelV x u → ∃ as, Reads s.heap u d as
  | _, _, _, .non, r => by cases r; exact ⟨_, Reads.none⟩
  | _, _, _, .bl b, r => by cases r; exact ⟨_, Reads.bool b⟩
  | _, _, _, .int i, r => by obtain ⟨t, rfl⟩ := r; exact ⟨_, Reads.int i t⟩
  | _, _, _, .str x, r => by obtain ⟨t, rfl⟩ := r; exact ⟨_, Reads.str x t⟩
  | _, _, _, .lst hq ha, r => by
    cases r
    obtain ⟨its, rv, ⟨o, n, e, c, _, d⟩, _⟩ := I.list hq
    obtain ⟨as, q⟩ := DAll.reads I ha rv
    exact ⟨_, reads_list_at e c d (by simpa using q)⟩
  | _, _, _, .tup hq ha, r => by
    cases r
    obtain ⟨its, rv, ⟨o, e, c, n, d⟩, _⟩ := I.tuple hq
    obtain ⟨as, q⟩ := DAll.reads I ha rv
    exact ⟨_, reads_tuple_at e c d (by simpa using q)⟩
theorem DAll.reads (I : Inv X pins σ H s) : ∀ {xs : List V} {ds : List PyData} {us : List Value}, DAll X.K H xs ds → Vals xs us → ∃ as, ReadsAll s.heap us ds as
  | _, _, _, .nil, .nil => ⟨_, ReadsAll.nil⟩
  | _, _, _, .cons h t, .cons r rt => by
    obtain ⟨as, q⟩ := DOf.reads I h r
    obtain ⟨bs, p⟩ := DAll.reads I t rt
    exact ⟨_, ReadsAll.cons q p⟩
end
end
noncomputable def rEqD (K : PySem.W.Frag) : R2 := fun x y H Q => ∃ d e, DOf K H x d ∧ DOf K H y e ∧ SeqAt.shaped d = true ∧ SeqAt.shaped e = true ∧ Q (.bl (PyData.eqv d e)) H
noncomputable def rNeD (K : PySem.W.Frag) : R2 := fun x y H Q => ∃ d e, DOf K H x d ∧ DOf K H y e ∧ SeqAt.shaped d = true ∧ SeqAt.shaped e = true ∧ Q (.bl (!PyData.eqv d e)) H
theorem op_eqD {X : Cx} (hu : X.A.units + 64 < cLine) : OpR X (compareOp .Eq) (rEqD X.K) := by
  intro pins s σ H x y v u Q I rx ry h
  obtain ⟨d, e, hd, he, s1, s2, q⟩ := h
  obtain ⟨as, ra⟩ := hd.reads I rx
  obtain ⟨bs, rb⟩ := he.reads I ry
  exact eq_dataH ra rb s1 s2 hu ⟨.bl _, H, I, rfl, q⟩
theorem op_neD {X : Cx} (hu : X.A.units + 64 < cLine) : OpR X (compareOp .NotEq) (rNeD X.K) := by
  intro pins s σ H x y v u Q I rx ry h
  obtain ⟨d, e, hd, he, s1, s2, q⟩ := h
  obtain ⟨as, ra⟩ := hd.reads I rx
  obtain ⟨bs, rb⟩ := he.reads I ry
  exact ne_dataH ra rb s1 s2 hu ⟨.bl _, H, I, rfl, q⟩
noncomputable def Itv (K : PySem.W.Frag) (a : Addr) (xs : List V) : It :=
  ⟨fun i H => SqL K H a xs ∧ i < xs.length, fun i H x H' => H' = H ∧ xs.reverse[i]? = some x, fun i H => SqL K H a xs ∧ i = xs.length⟩
theorem turn_rev {P : Program} {w : World} {K : PySem.W.Frag} {tg : Expr} (a it : Addr) (xs : List V) : Turn P w K tg (Itv K a xs) [it] it (fun i h => h.IsRevIter it a ((xs.length : Int) - 1 - (i : Int))) where
  mem := by simp
  obj := fun i h st b hb => by
    have e : b = it := by simpa using hb
    subst e
    obtain ⟨o, e, c, d⟩ := st
    exact ⟨o, e, fun v z => by rw [d] at z; cases z⟩
  keep := fun i h h' st k => st.at fun o e => k it (by simp) o e
  item := by
    intro X hP hw hK hc i pins s σ H E I hf st hg
    subst hP hw hK
    obtain ⟨hq, hx⟩ := hg
    obtain ⟨its, rv, p, hz⟩ := I.list hq
    have hlen := rv.length
    have e0 : (xs.length : Int) - 1 - (i : Int) = ((xs.length - 1 - i : Nat) : Int) := by omega
    have hget : xs.reverse[i]? = xs[xs.length - 1 - i]? := List.getElem?_reverse hx
    obtain ⟨x, hx'⟩ : ∃ x, xs[xs.length - 1 - i]? = some x := ⟨xs[xs.length - 1 - i]'(by omega), List.getElem?_eq_getElem (by omega)⟩
    obtain ⟨u, hu, ru⟩ := rv.get hx'
    obtain ⟨f0, f1, f2, f3, f4, f5⟩ := hf it (by simp)
    have st1 : s.heap.IsRevIter it a ((xs.length - 1 - i : Nat) : Int) := by rw [← e0]; exact st
    refine wpAny_pyNext_rev_item st1 p.isList (x := u) (by simpa using hu) fun h' st' sb => ?_
    have I1 : Inv X pins σ H { s with heap := h' } := I.turned (t' := s.toks) (fun b o hb e => (sb.2 b hb).trans e) f0 f1 f3 f4 f5
    have e1 : ((xs.length - 1 - i : Nat) : Int) - 1 = (xs.length : Int) - 1 - ((i + 1 : Nat) : Int) := by omega
    have st2 : h'.IsRevIter it a ((xs.length : Int) - 1 - ((i + 1 : Nat) : Int)) := by rw [← e1]; exact st'
    obtain ⟨o, e, c, d⟩ := id st'
    exact ⟨u, rfl, go_of (s := { s with heap := h' }) e c d (by decide) ⟨x, H, I1, ru, ⟨rfl, hget.trans hx'⟩, st2, fun b hb => (hf b hb).1⟩⟩
  done := by
    intro X hP hw hK hc i pins s σ H E I hf st hg
    subst hP hw hK
    obtain ⟨hq, hx⟩ := hg
    obtain ⟨f0, f1, f2, f3, f4, f5⟩ := hf it (by simp)
    have e0 : (xs.length : Int) - 1 - (i : Int) = -1 := by omega
    have st1 : s.heap.IsRevIter it a (-1) := by rw [← e0]; exact st
    exact wpAny_pyNext_rev_end (I.ok.hd hc) st1 fun h' eb => ⟨rfl, I.turned (t' := s.toks) (fun b o hb e => eb b o hb e) f0 f1 f3 f4 f5⟩
  self := fun _ _ _ _ _ st h => wpAny_pyIter_revIter st h
section
variable {X : Cx} {tg : Expr}
noncomputable def iRev (K : PySem.W.Frag) (tl : TA) : TI := fun σ H R => tl σ H fun vs H1 => ∃ a xs, vs = [.ref a] ∧ SqL K H1 a xs ∧ R (Itv K a xs) H1
theorem pi_rev {l : Expr} {tl : TA} {p pos : Pos} (hg : Gl X "reversed") (hm : X.mg "reversed" = none) (ha : PA X [l] tl) (hs : starEach [l] X.env = [(false, eval l X.env)] := by rfl) : PI X tg (.Call (.Name "reversed" p) [l] [] pos) (iRev X.K tl) := by
  intro pins s σ H R I h
  refine Call_ (ld_blt I hg hm boot_reversed (PyProof.Rows.callWith_type1 (thn (ha pos pins s σ H _ I h) fun us s1 ⟨vs, H1, I1, r1, q1⟩ => ?_) hs rfl))
  obtain ⟨a, xs, e, hq, q⟩ := q1
  subst e
  cases r1 with
  | cons r rr =>
    cases rr
    cases r
    obtain ⟨its, rv, p, hz⟩ := I1.list hq
    have hlen := rv.length
    refine call_reversed_list p.isList ?_
    have hit : (s1.heap.push (revObj a (((its.toArray).size : Int) - 1))).IsRevIter s1.heap.objs.size a ((xs.length : Int) - 1 - ((0 : Nat) : Int)) := by
      refine ⟨_, Heap.get?_push_size _ rfl, rfl, ?_⟩
      have e1 : ((its.toArray.size : Nat) : Int) - 1 = (xs.length : Int) - 1 - ((0 : Nat) : Int) := by rw [List.size_toArray]; omega
      show Data.fields #[.ref a, rawInt ((its.toArray.size : Int) - 1)] = _
      rw [e1]
    have I2 : Inv X pins σ H1 { s1 with heap := s1.heap.push (revObj a (((its.toArray).size : Int) - 1)) } := I1.kept (t' := s1.toks) fun b o e => Heap.get?_push_of_some _ e
    refine wpAny_pyIter_revIter hit ?_
    refine ⟨s1.heap.objs.size, [s1.heap.objs.size], _, _, H1, rfl, I2, turn_rev a _ xs, hit, fun b hb => ?_, q⟩
    have e : b = s1.heap.objs.size := by simpa using hb
    subst e
    have f := I1.fpOk (H' := H1) (Nat.le_refl _) (I1.hok.fresh (Nat.le_refl _))
    exact f
end
end L2
namespace L2
open PySem PySem.Spec PyProof.Rows
section
variable {prog : Program} {w : World} {A : Around} {R : Result → Shared → Prop} {s : Shared}
theorem compLoop_gen {elt target iter : Expr} {ifs : List Expr} {scope : Scope} {pos : Pos} {it acc : Value} {env : Env} (I : Nat → Shared → Prop)
    (turn : ∀ n s, I n s → wpAny (model prog w) A (pyNext it) (fun r s₁ => match r with
      | none => R (.ok .next) s₁
      | some v => wpAny (model prog w) A (letOwnedTupleGo target it v) (fun _ s₁' => wpAny (model prog w) A (assign target env v) (fun _ s₂ =>
          wpAny (model prog w) A (forIn ifs true fun c r => if r = true then do let ok ← isTrue c env (eval c env); pure (ForInStep.yield ok) else pure (ForInStep.yield r)) (fun ok s₃ =>
            if ok = true then wpAny (model prog w) A (eval elt env) (fun x s₄ =>
              wpAny (model prog w) A (call (.builtin "list.append") [acc, x]) (fun _ s₅ => ∃ m, m < n ∧ I m s₅) (fun _ _ => False) s₄) (fun _ _ => False) s₃
            else ∃ m, m < n ∧ I m s₃) (fun _ _ => False) s₂) (fun _ _ => False) s₁') (fun _ _ => False) s₁) (fun _ _ => False) s)
    (n : Nat) (h : I n s) :
    codeAny (model prog w) A (.compLoop (.ListComp elt [⟨target, iter, ifs, 0⟩] scope pos) 0 it acc env) R s := by
  refine codeAny_loop rfl I (fun n s hI => ?_) n h
  show wpAny _ A ((compTurn (.ListComp elt [⟨target, iter, ifs, 0⟩] scope pos) 0 it acc env).onRaise (fun x => do noteFrame x env; theTreesLotGoes x)) _ _ s
  refine wpAny_noted ?_
  rw [compTurn_list]
  refine wpAny_bind (wpAny_standAt (wpAny_bind (wpAny_mono (turn n s hI) (fun r s₁ h₁ => ?_) fun _ _ h' => h'.elim)))
  cases r with
  | none => exact wpAny_pure h₁
  | some v =>
    refine wpAny_bind (wpAny_mono h₁ (fun _ s₁' h₁' => ?_) fun _ _ h' => h'.elim)
    refine wpAny_bind (wpAny_mono h₁' (fun _ s₂ h₂ => wpAny_bind (wpAny_mono h₂ (fun ok s₃ h₃ => ?_) fun _ _ h' => h'.elim)) fun _ _ h' => h'.elim)
    cases ok with
    | false => exact wpAny_pure ⟨rfl, h₃⟩
    | true =>
      exact wpAny_bind (wpAny_bind (wpAny_mono h₃ (fun x s₄ h₄ => wpAny_bind (wpAny_mono h₄ (fun _ s₅ h₅ => wpAny_pure (wpAny_pure ⟨rfl, h₅⟩)) fun _ _ h' => h'.elim)) fun _ _ h' => h'.elim))
end
noncomputable def Cx.comp (X : Cx) (sc : Scope) (cl : List (Str × Addr)) (N : List Str) (C : Addr) (s₀ : Shared) (H₀ : Hp) (fp : List Addr) : Cx :=
  ⟨X.prog, X.w, X.K, X.mg, X.base, X.A, N, s₀, H₀, ⟨sc, C, X.env.globals, cl, X.env.qual, none, X.env.code, X.env.frame, X.env.builtins⟩, X.stack, X.stack, fp, fun _ => false, X.calm, [], fun _ _ => False⟩
noncomputable def PTs (X : Cx) (ifs : List Expr) (t : TT) : Prop :=
  ∀ (pins : List (Addr × Obj)) (s : Shared) (σ : St) (H : Hp) (Q : Bool → Hp → Prop), Inv X pins σ H s → t σ H Q →
    wpAny (model X.prog X.w) X.A (forIn ifs true fun c r => if r = true then do let ok ← isTrue c X.env (eval c X.env); pure (ForInStep.yield ok) else pure (ForInStep.yield r)) (TP X pins σ Q) X.xe s
noncomputable def tYes : TT := fun _ H Q => Q true H
theorem pts_nil {X : Cx} : PTs X [] tYes := fun _ _ _ H _ I h => wpAny_tests_nil ⟨H, I, h⟩
noncomputable def slots (js : List (Option Nat)) (σ : St) : St := js.map fun j => j.bind fun j => (σ[j]?).join
noncomputable def tComp (js : List (Option Nat)) (wi : TI) (g : TG) (tt : TT) (te : TE) : TE := fun σ H Q => wi σ H fun J H1 => ∀ l, H1 l = none → ∃ W : Nat → Nat → St → Hp → Prop, (∃ m, W 0 m (slots js σ) (upd H1 l (.lst []))) ∧
  ∀ i m σ' H', W i m σ' H' → (J.stop i H' ∧ Q (.ref l) H') ∨ (J.go i H' ∧ ∃ N : St → Hp → Prop, (∀ σ' H', N σ' H' → ∃ m', m' < m ∧ W (i + 1) m' σ' H') ∧ ∀ x H2, J.yld i H' x H2 → g x σ' H2 fun σ3 H3 => tt σ3 H3 fun b H4 =>
    if b = true then te σ3 H4 fun y H5 => ∃ ys, H5 l = some (.lst ys) ∧ ys.length < sizeLine ∧ N σ3 (upd H5 l (.lst (ys ++ [y]))) else N σ3 H4)
section
variable {X : Cx} {elt target iter : Expr} {ifs : List Expr} {scope sc : Scope} {cl : List (Str × Addr)} {N : List Str} {pos : Pos} {wi : TI} {g : TG} {tt : TT} {te : TE} {js : List (Option Nat)}
structure CompOk (X : Cx) (scope sc : Scope) (cl : List (Str × Addr)) (N : List Str) (js : List (Option Nat)) : Prop where
  clos : closureFor scope X.env = pure cl
  rel : relabel scope X.env = sc
  nocell : ∀ y ∈ scope.names, y.2 ≠ .cell
  kind : scope.kind = .function
  names : ∀ y ∈ scope.names, y.2 = .local → scope.names.lookup y.1 = some .local
  same : ∀ x c, cl.lookup x = some c → X.env.cells.lookup x = some c
  has : ∀ x, (sc.names.lookup x = some .cell ∨ sc.names.lookup x = some .free) → ∃ c, cl.lookup x = some c
  len : js.length = N.length
  from_ : ∀ (i j : Nat), js[i]? = some (some j) → ∃ x, N[i]? = some x ∧ X.N[j]? = some x ∧ (sc.names.lookup x = some .cell ∨ sc.names.lookup x = some .free) ∧ (X.env.kindOf x = some .cell ∨ X.env.kindOf x = some .free)
theorem comp_gen {use : Option (Value → Sem Unit)} {Qv : Value → Shared → Prop} (K : CompOk X scope sc cl N js) (hc : X.calm = true) (hi : PI X target iter wi)
    (hgg : ∀ C s₀ H₀ fp, PG (X.comp sc cl N C s₀ H₀ fp) target g) (htt : ∀ C s₀ H₀ fp, PTs (X.comp sc cl N C s₀ H₀ fp) ifs tt) (hee : ∀ C s₀ H₀ fp, PE (X.comp sc cl N C s₀ H₀ fp) elt te)
    (hs : ∀ x, foldedSetIterable iter X.env x = pure x) (pins : List (Addr × Obj)) (s : Shared) (σ : St) (H : Hp) (Q : VK) (I : Inv X pins σ H s) (h : tComp js wi g tt te σ H Q)
    (hend : ∀ (D C : Addr) (H4 : Hp) (s5 : Shared) (m : Str → Option Value), Inv X pins σ H4 s5 → s5.heap.Ns C m → H4 C = none → C ≠ X.env.locals → C ∉ X.fs → X.s₀.heap.objs.size ≤ C → (∀ x c, X.env.cells.lookup x = some c → c ≠ C) → (∀ p ∈ X.pn ++ pins, p.1 ≠ C) → Q (.ref D) H4 →
      compPost (model X.prog X.w) X.A X.xe use Qv (.ref D) C (.ok .next) s5) :
    wpAny (model X.prog X.w) X.A (comprehension (.ListComp elt [⟨target, iter, ifs, 0⟩] scope pos) scope X.env (firstIterPos [⟨target, iter, ifs, 0⟩] pos) (newList []) false (firstIter [⟨target, iter, ifs, 0⟩] X.env) use) Qv X.xe s := by
  refine wpAny_comprehension_free (use := use) rfl hs K.clos K.kind K.names (thn (hi pins s σ H _ I h) fun v s1 h1 => thn h1 fun itv s2 h2 => ?_)
  obtain ⟨it, fp, tn, J, H2, e, I2, T, st2, f2, R⟩ := h2
  subst e
  refine wpAny_newObj_type (wpAny_newFunctionEnv K.nocell (by intro y hy; simp at hy) (fun h₁ hns₁ hsb₁ => ?_) K.kind)
  dsimp only at hns₁ hsb₁ ⊢
  have I3 : Inv X pins σ (upd H2 s2.heap.objs.size (.lst [])) { s2 with heap := s2.heap.push { cls := .type "list", dict := none, data := .seq ([] : List Value).toArray } } :=
    I2.lnew (t' := s2.toks) (its := []) .nil (Nat.zero_le _)
  obtain ⟨W, ⟨m0, w0⟩, turn⟩ := R s2.heap.objs.size (I2.hok.fresh (Nat.le_refl _))
  generalize hP : s2.heap.push { cls := .type "list", dict := none, data := .seq ([] : List Value).toArray } = h3 at hns₁ hsb₁ I3 ⊢
  generalize hD : s2.heap.objs.size = D at w0 turn I3 ⊢
  have hsz3 : h3.objs.size = D + 1 := by rw [← hP, Heap.size_push, hD]
  have old3 : ∀ b o, s2.heap.get? b = some o → h3.get? b = some o := fun b o e => by rw [← hP]; exact Heap.get?_push_of_some _ e
  have old : ∀ b o, h3.get? b = some o → h₁.get? b = some o := fun b o e => hsb₁.extBut b o (Nat.ne_of_lt (Heap.lt_size e)) (Heap.get?_push_of_some _ e)
  have fpD : ∀ b ∈ fp, b < D := fun b hb => by
    obtain ⟨o, e, _⟩ := T.obj _ _ st2 b hb
    rw [← hD]; exact Heap.lt_size e
  have frD : ∀ b ∈ fp, (upd H2 D (.lst [])) b = none := fun b hb => by rw [upd_ne (Nat.ne_of_lt (fpD b hb))]; exact (f2 b hb).1
  have f3 : ∀ b ∈ fp, FpOk X pins (upd H2 D (.lst [])) b := fun b hb => ⟨frD b hb, (f2 b hb).2⟩
  have Hfresh : ∀ a, h3.objs.size ≤ a → (upd H2 D (.lst [])) a = none := fun a ha => I3.hok.fresh ha
  have cellC : ∀ x c, X.env.cells.lookup x = some c → c < h3.objs.size := fun x c e => by
    obtain ⟨v, q⟩ := I3.cell x c e
    exact q.lt
  have YOk : (X.comp sc cl N h3.objs.size { s2 with heap := h3 } (upd H2 D (.lst [])) fp).Ok := by
    refine ⟨I3.ok.mod, ?_, I3.ok.glob, I3.ok.blt, Nat.le_refl _, fun x y c e1 e2 => I3.ok.inj x y c (K.same x c e1) (K.same y c e2), fun x hx => K.has x hx, fun x c hf _ => absurd hf (by intro z; cases z), I3.ok.hd, I3.ok.frames, .inl rfl, fun b hb => ⟨?_, fun x c e => (f2 b hb).2.2.2.2.1 x c (K.same x c e)⟩,
      I3.bs, Nat.le_trans I3.ok.bsz I3.sz, fun b o e hb => ?_, fun b hb hm => ?_, I3.stack, I3.stkFree⟩
    · rw [← K.rel]; exact K.kind
    · exact Nat.ne_of_lt (by rw [hsz3]; exact Nat.lt_succ_of_lt (fpD b hb))
    · rcases (f2 b hb).2.2.2.1 with z | z
      · exact I3.ok.noex b o e z
      · exact absurd (Nat.lt_of_lt_of_le (Heap.lt_size (I3.ok.bs b o e).1) z) (Nat.lt_irrefl _)
    · rcases List.mem_cons.mp (I3.stkSub b hm) with z | z
      · exact (f2 b hb).2.1 z
      · exact (f2 b hb).2.2.1 z
  have IY : Inv (X.comp sc cl N h3.objs.size { s2 with heap := h3 } (upd H2 D (.lst [])) fp) [] (slots js σ) (upd H2 D (.lst [])) { s2 with heap := h₁, toks := s2.toks + ([] : List (Str × Value)).length } := by
    refine ⟨YOk, rfl, I3.bare, Un.kept old, ⟨_, hns₁, fun i x v e1 e2 e3 => ?_⟩, fun x c e => ?_, Hfresh _ (Nat.le_refl _), fun x c e => I3.freeC x c (K.same x c e), fun p hp => absurd (show p ∈ ([] : List (Addr × Obj)) from hp) (by simp), I3.hok.kept old, ?_⟩
    · unfold slots at e2
      rw [List.getElem?_map] at e2
      cases ej : js[i]? with
      | none => rw [ej] at e2; cases e2
      | some jo =>
        rw [ej] at e2
        cases jo with
        | none => cases e2
        | some j =>
          obtain ⟨y, n1, n2, k1, k2⟩ := K.from_ i j ej
          have exy : y = x := Option.some.inj (n1.symm.trans e1)
          subst exy
          have e2' : (σ[j]?).join = some v := Option.some.inj e2
          have e4 : σ[j]? = some (some v) := by
            cases es : σ[j]? with
            | none => rw [es] at e2'; cases e2'
            | some w => rw [es] at e2'; exact congrArg some e2'
          obtain ⟨m, _, hl⟩ := I3.loc
          obtain ⟨u, ru, lk⟩ := hl j y v n2 e4 (by
            rcases k2 with z | z
            · exact .inr (.inl z)
            · exact .inr (.inr z))
          refine ⟨u, ru, .inr ⟨k1, ?_⟩⟩
          obtain ⟨c, hcl⟩ := K.has y k1
          refine ⟨c, hcl, ?_⟩
          rcases lk with ⟨z, _⟩ | ⟨_, c', e5, ic⟩
          · rcases k2 with q | q
            · rw [q] at z; cases z
            · rw [q] at z; cases z
          · have : c' = c := Option.some.inj (e5.symm.trans (K.same y c hcl))
            subst this
            obtain ⟨o, ho, hd⟩ := ic
            exact ⟨o, old _ _ ho, hd⟩
    · obtain ⟨v, o, ho, hd⟩ := I3.cell x c (K.same x c e)
      exact ⟨v, o, old _ _ ho, hd⟩
    · unfold slots; rw [List.length_map]; exact K.len
  have loop : ∀ s₃ : Shared, s₃ = { s2 with heap := h₁, toks := s2.toks + ([] : List (Str × Value)).length } →
      codeAny (model X.prog X.w) X.A (.compLoop (.ListComp elt [⟨target, iter, ifs, 0⟩] scope pos) 0 (.ref it) (.ref D) (X.comp sc cl N h3.objs.size { s2 with heap := h3 } (upd H2 D (.lst [])) fp).env)
        (compPost (model X.prog X.w) X.A X.xe use Qv (.ref D) h3.objs.size) s₃ := by
    rintro s₃ rfl
    refine compLoop_gen (fun n s' => ∃ i σ' H', Inv (X.comp sc cl N h3.objs.size { s2 with heap := h3 } (upd H2 D (.lst [])) fp) [] σ' H' s' ∧ tn i s'.heap ∧ (∀ b ∈ fp, H' b = none) ∧ W i n σ' H') ?_ m0
      ⟨0, _, _, IY, T.keep _ _ _ st2 (fun b hb o e => old b o (old3 b o e)), frD, w0⟩
    rintro n s4 ⟨i, σ4, H4, I4, st4, fr4, w4⟩
    have ff : ∀ {H' : Hp}, (∀ b ∈ fp, H' b = none) → ∀ b ∈ fp, FpOk (X.comp sc cl N h3.objs.size { s2 with heap := h3 } (upd H2 D (.lst [])) fp) [] H' b := fun hn b hb =>
      ⟨hn b hb, (YOk.exf b hb).1, YOk.exfs b hb, .inl hb, (YOk.exf b hb).2, fun p hp => absurd (show p ∈ ([] : List (Addr × Obj)) from hp) (by simp)⟩
    have hg := hgg h3.objs.size { s2 with heap := h3 } (upd H2 D (.lst [])) fp
    have ht := htt h3.objs.size { s2 with heap := h3 } (upd H2 D (.lst [])) fp
    have he := hee h3.objs.size { s2 with heap := h3 } (upd H2 D (.lst [])) fp
    rcases turn i n σ4 H4 w4 with ⟨stop, qn⟩ | ⟨go, Nx, hN, step⟩
    · refine thn (T.done (X.comp sc cl N h3.objs.size { s2 with heap := h3 } (upd H2 D (.lst [])) fp) rfl rfl rfl hc i [] s4 σ4 H4 _ I4 (ff fr4) st4 stop) fun r s5 ⟨hr, I5⟩ => ?_
      subst hr
      obtain ⟨m, hn, _⟩ := I5.loc
      have IX : Inv X pins σ H4 s5 := I3.call' (ch := fp) I5.os I5.base I5.hok I5.bare fun b hb => ⟨(f3 b hb).2.2.2.1, (f3 b hb).2.1, (f3 b hb).2.2.2.2.1, (f3 b hb).2.2.2.2.2⟩
      exact hend D h3.objs.size H4 s5 m IX hn I5.free (Ne.symm (Nat.ne_of_lt I3.lt)) (I3.nofs (Nat.le_refl _)) I3.sz (fun x c e => Nat.ne_of_lt (cellC x c e)) (fun p hp => Nat.ne_of_lt (Heap.lt_size (I3.pin p hp).1)) qn
    · refine thn (T.item (X.comp sc cl N h3.objs.size { s2 with heap := h3 } (upd H2 D (.lst [])) fp) rfl rfl rfl hc i [] s4 σ4 H4 _ I4 (ff fr4) st4 go) fun r s5 ⟨u, hr, h5⟩ => ?_
      subst hr
      refine thn h5 fun _ s6 ⟨x, H6, I6, r6, y6, st6, fr6⟩ => ?_
      have I6' := I6.pinned (ff fr6) (T.obj _ _ st6)
      have back : ∀ {σ7 : St} {H7 : Hp} {s7 : Shared}, Inv (X.comp sc cl N h3.objs.size { s2 with heap := h3 } (upd H2 D (.lst [])) fp) ([] ++ pinsAt fp s6.heap) σ7 H7 s7 →
          Inv (X.comp sc cl N h3.objs.size { s2 with heap := h3 } (upd H2 D (.lst [])) fp) [] σ7 H7 s7 ∧ tn (i + 1) s7.heap ∧ ∀ b ∈ fp, H7 b = none := fun {σ7 H7 s7} I7 =>
        ⟨I7.unpinned, T.keep _ _ _ st6 fun b hb o e => (I7.pin (b, o) (List.mem_append_right _ (List.mem_append_right _ (mem_pinsAt hb e)))).1, fun b hb => by
          obtain ⟨o, e, d⟩ := T.obj _ _ st6 b hb
          exact (I7.pin (b, o) (List.mem_append_right _ (List.mem_append_right _ (mem_pinsAt hb e)))).2.1⟩
      refine thn (hg _ s6 σ4 H6 x u _ I6' r6 (step x H6 y6)) fun _ s7 ⟨σ7, H7, I7, q7⟩ => ?_
      refine thn (ht _ s7 σ7 H7 _ I7 q7) fun b s8 ⟨H8, I8, q8⟩ => ?_
      cases b with
      | false =>
        obtain ⟨m', hm, w8⟩ := hN σ7 H8 q8
        obtain ⟨J1, J2, J3⟩ := back I8
        exact ⟨m', hm, i + 1, σ7, H8, J1, J2, J3, w8⟩
      | true =>
        refine thn (he _ s8 σ7 H8 _ I8 q8) fun yv s9 ⟨y, H9, I9, r9, ys, hl, hz, n9⟩ => ?_
        obtain ⟨m', hm, w9⟩ := hN _ _ n9
        refine thn (mt_append _ s9 σ7 H9 (.ref D) [y] (.ref D) [yv] (fun v H' => v = .non ∧ H' = upd H9 D (.lst (ys ++ [y]))) I9 rfl (.cons r9 .nil) ⟨D, ys, y, rfl, rfl, hl, hz, rfl, rfl⟩) fun _ sA ⟨_, HA, IA, _, _, eA⟩ => ?_
        subst eA
        obtain ⟨J1, J2, J3⟩ := back IA
        exact ⟨m', hm, i + 1, σ7, _, J1, J2, J3, w9⟩
  rw [K.rel]
  exact codeAny_compStart_list (loop _ rfl) (T.self _ 0 _ _ _ (T.keep _ _ _ st2 (fun b hb o e => old b o (old3 b o e))) (loop _ rfl))
theorem pe_comp (K : CompOk X scope sc cl N js) (hc : X.calm = true) (hi : PI X target iter wi)
    (hgg : ∀ C s₀ H₀ fp, PG (X.comp sc cl N C s₀ H₀ fp) target g) (htt : ∀ C s₀ H₀ fp, PTs (X.comp sc cl N C s₀ H₀ fp) ifs tt) (hee : ∀ C s₀ H₀ fp, PE (X.comp sc cl N C s₀ H₀ fp) elt te)
    (hs : ∀ x, foldedSetIterable iter X.env x = pure x := by intro _; rfl) : PE X (.ListComp elt [⟨target, iter, ifs, 0⟩] scope pos) (tComp js wi g tt te) := by
  intro pins s σ H Q I h
  rw [eval_ListComp]
  refine comp_gen (use := none) K hc hi hgg htt hee hs pins s σ H Q I h fun D C H4 s5 m IX hn fC nL _ sz nc np qn => ?_
  exact ⟨m, hn, fun h' hs' => ⟨.ref D, H4, IX.turned (t' := s5.toks) (it := C) (fun b o hb e => (hs'.2 b hb).trans e) fC nL (.inr sz) nc np, rfl, qn⟩⟩
end
end L2
namespace L2
open PySem PySem.Spec PyProof.Rows
theorem compClosed {X : Cx} {scope : Scope} {N : List Str} {js : List (Option Nat)} (hf : ∀ x ∈ scope.names, x.2 ≠ .free := by decide +kernel) (hcell : ∀ x ∈ scope.names, x.2 ≠ .cell := by decide +kernel)
    (hk : scope.kind = .function := by rfl) (hn : ∀ y ∈ scope.names, y.2 = .local → scope.names.lookup y.1 = some .local := by decide +kernel) (hl : js.length = N.length := by rfl) (hj : ∀ j ∈ js, j = none := by decide) : CompOk X scope scope [] N js where
  clos := closureFor_none hf
  rel := by
    unfold relabel
    have e : (scope.names.map fun (x : Str × NameKind) => match x with | (n, k) => if (k == .free && X.env.scope.kind == .function && X.env.kindOf n == some .cell) then (n, NameKind.cell) else (n, k)) = scope.names := by
      refine map_eq_self fun x hx => ?_
      obtain ⟨n, k⟩ := x
      have : (k == NameKind.free) = false := by simpa using hf _ hx
      simp [this]
    rw [e]
  nocell := hcell
  kind := hk
  names := hn
  same := fun x c e => by simp at e
  has := fun x h => by
    rcases h with h | h
    · exact absurd rfl (hcell _ (PySem.mem_of_lookup h))
    · exact absurd rfl (hf _ (PySem.mem_of_lookup h))
  len := hl
  from_ := fun i j h => by
    have := hj _ (List.mem_of_getElem? h)
    cases this
structure Own (P : Program) (w : World) (K : PySem.W.Frag) (mg : Str → Option Value) (base : Heap) (k : Nat) (x : Str) (ps : List Str) (sp : Sp) : Prop where
  ex : ∃ (f : Addr) (fd : FuncData), FnOk P w K mg base CX0 k f fd ps sp ∧ Binds K fd ps [] ∧ mg x = some (.ref f) ∧ PySem.W.keepIn K (.ref f) = true
theorem pe_own {X : Cx} {k : Nat} {x : Str} {ps : List Str} {sp : Sp} {p pos : Pos} {e : Expr} {es : List Expr} {t : TA} (D : Own X.prog X.w X.K X.mg X.base k x ps sp) (hr : Room k X.A) (hg : Gl X x) (ha : PA X (e :: es) t)
    (hdb : (x == ("__debug__" : Str)) = false := by decide) (he : starEach (e :: es) X.env = (false, eval e X.env) :: starEach es X.env := by rfl) (hpl : (backTo pos (starEach es X.env)).any (·.1) = false := by rfl) :
    PE X (.Call (.Name x p) (e :: es) [] pos) (tCall sp [] E0 t) := by
  obtain ⟨f, fd, F, b, m, kp⟩ := D.ex
  exact pe_call F hr hg m kp b .nil pass0 ha hdb he hpl
structure Def (K : PySem.W.Frag) (mg : Str → Option Value) (x : Str) (st : Stmt) (ps : List Str) : Prop where
  ex : ∃ (f : Addr) (fd : FuncData), Fun K x x st f fd ∧ mg x = some (.ref f) ∧ Binds K fd ps []
theorem Def.own {P : Program} {w : World} {K : PySem.W.Frag} {mg : Str → Option Value} {base : Heap} {x : Str} {st : Stmt} {N ps : List Str} {k : Nat} {sp : Sp} (D : Def K mg x st ps) (S : FnScope N ps (defScope st))
    (len : ∀ vs H Q E, sp vs H Q E → vs.length = ps.length)
    (hbody : ∀ (f : Addr) (cdv : Value) (A : Around) (outer : List Env) (s : Shared) (H : Hp) (vs : List V) (Q : VK) (E : XK), Room k (A.deeper (envOfC x (defScope st) s.heap.objs.size f cdv)) → sp vs H Q E →
      ∃ t, PSs (cxOf CX0 P w K mg base N x (defScope st) f cdv A outer s H E).nox (defBody st) t ∧ t { nx := fun _ H' => Q .non H', rt := Q } (start N vs) H) : Own P w K mg base (k + 1) x ps sp := by
  obtain ⟨f, fd, F, m, b⟩ := D.ex
  exact ⟨f, fd, F.ok S len (hbody f), b, m, F.kp⟩
theorem def_mk {K : PySem.W.Frag} {h : Heap} {mg : Str → Option Value} {x : Str} {st : Stmt} {ps : List Str} {f : Addr} {oc : Value} {od an : Option Addr} {osl : Array (Option Value)} {kV doc pm cdv ct : Value} (X : K.In h) (G : h.Ns mainGlobals mg)
    (a : PySem.W.nsIn K mainGlobals x = some (some (.ref f))) (l : K.lookup f = some ⟨oc, od, .func (PySem.W.fnOf x x (defArgs st) (defBody st) (defScope st) .none kV doc pm an cdv ct), osl⟩)
    (c : PySem.W.codeIn K cdv x = true) (k : PySem.W.keepIn K (.ref f) = true)
    (b : ∀ (kV doc pm : Value) (an : Option Addr) (cdv ct : Value) (us : List Value), us.length = ps.length → bindArgs (PySem.W.fnOf x x (defArgs st) (defBody st) (defScope st) .none kV doc pm an cdv ct) ⟨us, []⟩ = pure (ps.zip us)) : Def K mg x st ps :=
  ⟨f, _, fun_mk l c k, PySem.W.mg_of X G a, (fun_mk (st := st) l c k).binds b⟩
end L2
namespace Nh
open PySem L2
section
variable {α β : Type} {F : α → β → Prop}
theorem pr_append : ∀ {a : List α} {b : List β} {c : List α} {d : List β}, Paired F a b → Paired F c d → Paired F (a ++ c) (b ++ d)
  | _, _, _, _, .nil, s => s
  | _, _, _, _, .cons r t, s => .cons r (pr_append t s)
theorem pr_take : ∀ {a : List α} {b : List β} (n : Nat), Paired F a b → Paired F (a.take n) (b.take n)
  | _, _, 0, _ => .nil
  | _, _, _ + 1, .nil => .nil
  | _, _, n + 1, .cons r t => .cons r (pr_take n t)
theorem pr_drop : ∀ {a : List α} {b : List β} (n : Nat), Paired F a b → Paired F (a.drop n) (b.drop n)
  | _, _, 0, r => r
  | _, _, _ + 1, .nil => .nil
  | _, _, n + 1, .cons _ t => pr_drop n t
theorem pr_reverse : ∀ {a : List α} {b : List β}, Paired F a b → Paired F a.reverse b.reverse
  | _, _, .nil => .nil
  | _, _, .cons r t => by
    rw [List.reverse_cons, List.reverse_cons]
    exact pr_append (pr_reverse t) (.cons r .nil)
theorem pr_get' : ∀ {a : List α} {b : List β} {i : Nat} {y : β}, Paired F a b → b[i]? = some y → ∃ x, a[i]? = some x ∧ F x y
  | _, _, _, _, .nil, e => by simp at e
  | _, _, 0, _, .cons r _, e => by simp at e; subst e; exact ⟨_, rfl, r⟩
  | _, _, i + 1, x, .cons _ t, e => by
    obtain ⟨u, h1, h2⟩ := pr_get' (i := i) (y := x) t (by simpa using e)
    exact ⟨u, by simpa using h1, h2⟩
theorem pr_rep {a : List α} {b : List β} (h : Paired F a b) : ∀ k : Nat, Paired F (List.replicate k a).flatten (List.replicate k b).flatten
  | 0 => .nil
  | k + 1 => by
    rw [List.replicate_succ, List.replicate_succ, List.flatten_cons, List.flatten_cons]
    exact pr_append h (pr_rep h k)
end
noncomputable abbrev Pc := Nat × Int
noncomputable def tv (p : Pc) : List V := [.str ⟨#[p.1]⟩, .int p.2]
noncomputable def PcAt (H : Hp) (v : V) (p : Pc) : Prop := ∃ t, v = .ref t ∧ H t = some (.tup (tv p))
noncomputable abbrev PAll (H : Hp) : List V → List Pc → Prop := Paired (PcAt H)
section
variable {H H' : Hp} {l : Addr} {xs ys : List V} {c : List Pc}
theorem PAll.same (s : Same H H') (h : PAll H xs c) : PAll H' xs c := Paired.mapP h fun _ _ ⟨t, e, q⟩ => ⟨t, e, s _ _ q⟩
theorem PAll.but (s : SameBut l H H') (hl : H l = some (.lst ys)) (h : PAll H xs c) : PAll H' xs c := Paired.mapP h fun _ _ ⟨t, e, q⟩ => ⟨t, e, s _ _ (ne_of q hl (by intro z; cases z)) q⟩
theorem PAll.len (h : PAll H xs c) : xs.length = c.length := Paired.length h
end
noncomputable def Cord (H : Hp) (a : Addr) (c : List Pc) : Prop := ∃ xs, H a = some (.lst xs) ∧ PAll H xs c
section
variable {H H' : Hp} {a : Addr} {c d : List Pc}
theorem Cord.same (s : Same H H') (h : Cord H a c) : Cord H' a c := let ⟨xs, e, p⟩ := h; ⟨xs, s _ _ e, p.same s⟩
end
noncomputable def pcD (p : Pc) : PyData := .tuple [.str ⟨#[p.1]⟩, .int p.2]
noncomputable def cordD (c : List Pc) : PyData := .list (c.map pcD)
noncomputable def NailsOk (c : List Pc) : Prop := ∀ p ∈ c, p.1 < 128
theorem pall_data {K : PySem.W.Frag} {H : Hp} : ∀ {xs : List V} {c : List Pc}, PAll H xs c → DAll K H xs (c.map pcD)
  | _, _, .nil => .nil
  | _, _, .cons ⟨t, e, q⟩ r => by
    subst e
    exact .cons (.tup (SqT.of q) (.cons (.str _) (.cons (.int _) .nil))) (pall_data r)
theorem Cord.data {K : PySem.W.Frag} {H : Hp} {a : Addr} {c : List Pc} (h : Cord H a c) : DOf K H (.ref a) (cordD c) :=
  let ⟨_, e, p⟩ := h; .lst (SqL.of e) (pall_data p)
theorem pc_ok {p : Pc} (h : p.1 < 128) : (pcD p).canLay0 = true := by
  have : p.1 < 1114112 := by omega
  simp [pcD, PyData.canLay0, PyData.canLayAll0, PyData.strOk, this]
theorem cord_lay : ∀ {c : List Pc}, NailsOk c → PyData.canLayAll0 (c.map pcD) = true ∧ PyData.depthAll (c.map pcD) ≤ 1
  | [], _ => by simp [PyData.canLayAll0, PyData.depthAll]
  | p :: c, h => by
    have ih := cord_lay (c := c) fun q hq => h q (List.mem_cons_of_mem _ hq)
    have h1 := pc_ok (h p (List.mem_cons_self ..))
    have h2 := ih.2
    simp only [List.map_cons, PyData.canLayAll0, PyData.depthAll, h1, ih.1, Bool.and_self, true_and]
    have h3 : (pcD p).depth = 1 := by simp [pcD, PyData.depth, PyData.depthAll]
    omega
theorem cord_shaped {c : List Pc} (h : NailsOk c) : SeqAt.shaped (cordD c) = true := by
  have q := cord_lay h
  have q2 := q.2
  unfold SeqAt.shaped
  simp only [cordD, PyData.canLay0, PyData.depth, q.1, Bool.true_and]
  exact decide_eq_true (by omega)
theorem pc_eqv (p q : Pc) : PyData.eqv (pcD p) (pcD q) = decide (p = q) := by
  obtain ⟨n, a⟩ := p
  obtain ⟨m, b⟩ := q
  simp only [pcD, PyData.eqv, PyData.eqvAll, Bool.and_true]
  rw [Bool.eq_iff_iff]
  simp
theorem cords_eqv : ∀ c d : List Pc, PyData.eqvAll (c.map pcD) (d.map pcD) = decide (c = d)
  | [], [] => by simp [PyData.eqvAll]
  | [], _ :: _ => by simp [PyData.eqvAll]
  | _ :: _, [] => by simp [PyData.eqvAll]
  | p :: c, q :: d => by
    simp only [List.map_cons, PyData.eqvAll, pc_eqv, cords_eqv c d]
    rw [Bool.eq_iff_iff]
    simp
theorem cord_eqv (c d : List Pc) : PyData.eqv (cordD c) (cordD d) = decide (c = d) := by
  simp only [cordD, PyData.eqv, cords_eqv]
end Nh
namespace PL
open PySem PySem.Spec PyProof.Rows L2 Nh
noncomputable def keyD : Key → PyData
  | .inl i => .int i
  | .inr x => .str x
mutual
inductive Rp (K : PySem.W.Frag) (H : Hp) : V → PyData → Prop
  | non : Rp K H .non .none
  | bl (b : Bool) : Rp K H (.bl b) (.bool b)
  | int (i : Int) : Rp K H (.int i) (.int i)
  | str (x : Str) : Rp K H (.str x) (.str x)
  | lst {a : Addr} {xs : List V} {ds : List PyData} : SqL K H a xs → RpA K H xs ds → Rp K H (.ref a) (.list ds)
  | tup {a : Addr} {xs : List V} {ds : List PyData} : SqT K H a xs → RpA K H xs ds → Rp K H (.ref a) (.tuple ds)
  | dct {a : Addr} {us : List (Key × V)} {kvs : List (PyData × PyData)} : Rd H a (.dK us) → RpK K H us kvs → Rp K H (.ref a) (.dict kvs)
inductive RpA (K : PySem.W.Frag) (H : Hp) : List V → List PyData → Prop
  | nil : RpA K H [] []
  | cons {x : V} {xs : List V} {d : PyData} {ds : List PyData} : Rp K H x d → RpA K H xs ds → RpA K H (x :: xs) (d :: ds)
inductive RpK (K : PySem.W.Frag) (H : Hp) : List (Key × V) → List (PyData × PyData) → Prop
  | nil : RpK K H [] []
  | cons {k : Key} {x : V} {us : List (Key × V)} {d : PyData} {kvs : List (PyData × PyData)} : Rp K H x d → RpK K H us kvs → RpK K H ((k, x) :: us) ((keyD k, d) :: kvs)
end
mutual
noncomputable def flat : PyData → Bool
  | .none => true
  | .bool _ => true
  | .int _ => true
  | .str _ => true
  | .list _ => false
  | .tuple xs => flatA xs
  | .dict _ => false
noncomputable def flatA : List PyData → Bool
  | [] => true
  | d :: ds => flat d && flatA ds
end
noncomputable def coldO : HO → Bool
  | .tup _ => true
  | .frz _ _ => true
  | _ => false
noncomputable def tups (H : Hp) : Hp := fun b => (H b).filter coldO
theorem tups_same (H : Hp) : Same (tups H) H := fun b o h => (Option.filter_eq_some_iff.mp h).1
theorem tups_of {H : Hp} {b : Addr} {o : HO} (h : H b = some o) (c : coldO o = true) : tups H b = some o := Option.filter_eq_some_iff.mpr ⟨h, c⟩
theorem tups_upd {H : Hp} {l : Addr} {xs ys : List V} (h : H l = some (.lst xs)) : tups (upd H l (.lst ys)) = tups H := by
  funext b
  unfold tups
  by_cases e : b = l
  · subst e
    rw [upd_same, h]
    rfl
  · rw [upd_ne e]
section
variable {K : PySem.W.Frag} {H H' : Hp}
theorem sqt_cold {a : Addr} {xs : List V} (h : SqT K H a xs) : SqT K (tups H) a xs := by
  rcases h with (h | ⟨o, h⟩) | h
  · exact .inl (.inl (tups_of h rfl))
  · exact .inl (.inr ⟨o, tups_of h rfl⟩)
  · exact .inr h
theorem rd_same {a : Addr} {u : HO} (s : Same H H') (h : Rd H a u) : Rd H' a u := by
  rcases h with h | ⟨o, h⟩
  · exact .inl (s _ _ h)
  · exact .inr ⟨o, s _ _ h⟩
mutual
theorem Rp.same (s : Same H H') : ∀ {v : V} {d : PyData}, Rp K H v d → Rp K H' v d
  | _, _, .non => .non
  | _, _, .bl b => .bl b
  | _, _, .int i => .int i
  | _, _, .str x => .str x
  | _, _, .lst h r => .lst (s.seq h) (RpA.same s r)
  | _, _, .tup h r => .tup (s.tup h) (RpA.same s r)
  | _, _, .dct h r => .dct (rd_same s h) (RpK.same s r)
theorem RpA.same (s : Same H H') : ∀ {v : List V} {d : List PyData}, RpA K H v d → RpA K H' v d
  | _, _, .nil => .nil
  | _, _, .cons h r => .cons (Rp.same s h) (RpA.same s r)
theorem RpK.same (s : Same H H') : ∀ {v : List (Key × V)} {d : List (PyData × PyData)}, RpK K H v d → RpK K H' v d
  | _, _, .nil => .nil
  | _, _, .cons h r => .cons (Rp.same s h) (RpK.same s r)
end
mutual
theorem Rp.cold : ∀ {v : V} {d : PyData}, Rp K H v d → flat d = true → Rp K (tups H) v d
  | _, _, .non, _ => .non
  | _, _, .bl b, _ => .bl b
  | _, _, .int i, _ => .int i
  | _, _, .str x, _ => .str x
  | _, _, .lst h r, e => by simp [flat] at e
  | _, _, .dct h r, e => by simp [flat] at e
  | _, _, .tup h r, e => .tup (sqt_cold h) (RpA.cold r (by simpa [flat] using e))
theorem RpA.cold : ∀ {v : List V} {d : List PyData}, RpA K H v d → flatA d = true → RpA K (tups H) v d
  | _, _, .nil, _ => .nil
  | _, _, .cons h r, e => by
    simp only [flatA, Bool.and_eq_true] at e
    exact .cons (Rp.cold h e.1) (RpA.cold r e.2)
end
mutual
theorem Rp.dof' : ∀ {v : V} {d : PyData}, Rp K H v d → d.canLay0 = true → DOf K H v d
  | _, _, .non, _ => .non
  | _, _, .bl b, _ => .bl b
  | _, _, .int i, _ => .int i
  | _, _, .str x, _ => .str x
  | _, _, .lst h r, e => .lst h (RpA.dof' r (by simpa [PyData.canLay0] using e))
  | _, _, .tup h r, e => .tup h (RpA.dof' r (by simpa [PyData.canLay0] using e))
  | _, _, .dct h r, e => by simp [PyData.canLay0] at e
theorem RpA.dof' : ∀ {v : List V} {d : List PyData}, RpA K H v d → PyData.canLayAll0 d = true → DAll K H v d
  | _, _, .nil, _ => .nil
  | _, _, .cons h r, e => by
    simp only [PyData.canLayAll0, Bool.and_eq_true] at e
    exact .cons (Rp.dof' h e.1) (RpA.dof' r e.2)
end
theorem Rp.dof {v : V} {d : PyData} (h : Rp K H v d) (e : SeqAt.shaped d = true) : DOf K H v d := h.dof' (SeqAt.canLay_of_shaped e)
theorem RpA.pr : ∀ {vs : List V} {ds : List PyData}, RpA K H vs ds → Paired (Rp K H) vs ds
  | _, _, .nil => .nil
  | _, _, .cons h r => .cons h (RpA.pr r)
theorem RpA.of : ∀ {vs : List V} {ds : List PyData}, Paired (Rp K H) vs ds → RpA K H vs ds
  | _, _, .nil => .nil
  | _, _, .cons h r => .cons h (RpA.of r)
theorem RpA.len {vs : List V} {ds : List PyData} (h : RpA K H vs ds) : vs.length = ds.length := Paired.length h.pr
theorem RpA.append {vs us : List V} {ds es : List PyData} (h : RpA K H vs ds) (k : RpA K H us es) : RpA K H (vs ++ us) (ds ++ es) := .of (pr_append h.pr k.pr)
theorem RpA.take {vs : List V} {ds : List PyData} (n : Nat) (h : RpA K H vs ds) : RpA K H (vs.take n) (ds.take n) := .of (pr_take n h.pr)
theorem RpA.drop {vs : List V} {ds : List PyData} (n : Nat) (h : RpA K H vs ds) : RpA K H (vs.drop n) (ds.drop n) := .of (pr_drop n h.pr)
theorem RpA.rev {vs : List V} {ds : List PyData} (h : RpA K H vs ds) : RpA K H vs.reverse ds.reverse := .of (pr_reverse h.pr)
theorem RpA.rep {vs : List V} {ds : List PyData} (n : Nat) (h : RpA K H vs ds) : RpA K H (List.replicate n vs).flatten (List.replicate n ds).flatten := .of (pr_rep h.pr n)
theorem RpA.get {vs : List V} {ds : List PyData} {i : Nat} {d : PyData} (h : RpA K H vs ds) (e : ds[i]? = some d) : ∃ v, vs[i]? = some v ∧ Rp K H v d := pr_get' h.pr e
theorem RpA.set : ∀ {vs : List V} {ds : List PyData} {v : V} {d : PyData} (i : Nat), RpA K H vs ds → Rp K H v d → RpA K H (vs.set i v) (ds.set i d)
  | _, _, _, _, _, .nil, _ => .nil
  | _, _, _, _, 0, .cons _ r, h => .cons h r
  | _, _, _, _, i + 1, .cons q r, h => .cons q (RpA.set i r h)
theorem RpA.dropLast {vs : List V} {ds : List PyData} (h : RpA K H vs ds) : RpA K H vs.dropLast ds.dropLast := by
  rw [List.dropLast_eq_take, List.dropLast_eq_take, h.len]
  exact h.take _
theorem RpA.snoc {vs : List V} {ds : List PyData} {v : V} {d : PyData} (h : RpA K H vs ds) (k : Rp K H v d) : RpA K H (vs ++ [v]) (ds ++ [d]) := h.append (.cons k .nil)
end
inductive Pt where
  | fl (d : PyData) | ol (ds : List PyData)
noncomputable def Pt.val : Pt → PyData
  | .fl d => d
  | .ol ds => .list ds
inductive Sl where
  /-- nothing is known -/
  | no
  /-- never written again -/
  | sh (d : PyData)
  /-- a list of one's own -/
  | ow (ds : List PyData)
  /-- a dict of one's own, its values lists of one's own -/
  | od (kvs : List (Key × List PyData))
  /-- a tuple with lists of one's own -/
  | tx (ps : List Pt)
  /-- (a part of an expression) the value of a name -/
  | al (i : Nat)
  /-- (a part of an expression) as it stands just now -/
  | br (d : PyData)
noncomputable def PtsOk (K : PySem.W.Frag) (F H : Hp) : List V → List Pt → List Addr → Prop
  | [], [], A => A = []
  | v :: vs, .fl d :: ps, A => Rp K F v d ∧ PtsOk K F H vs ps A
  | v :: vs, .ol ds :: ps, A => ∃ l us A', v = .ref l ∧ A = l :: A' ∧ H l = some (.lst us) ∧ RpA K F us ds ∧ PtsOk K F H vs ps A'
  | _, _, _ => False
noncomputable def DlOk (K : PySem.W.Frag) (F H : Hp) : List (Key × V) → List (Key × List PyData) → List Addr → Prop
  | [], [], A => A = []
  | p :: us, q :: kvs, A => ∃ l vs A', p = (q.1, .ref l) ∧ A = l :: A' ∧ H l = some (.lst vs) ∧ RpA K F vs q.2 ∧ DlOk K F H us kvs A'
  | _, _, _ => False
noncomputable def SlOk (K : PySem.W.Frag) (F H : Hp) (σ : L2.St) (o : Option V) : Sl → List Addr → Prop
  | .no, A => A = []
  | .sh d, A => A = [] ∧ ∃ v, o = some v ∧ Rp K F v d
  | .ow ds, A => ∃ l vs, o = some (.ref l) ∧ A = [l] ∧ H l = some (.lst vs) ∧ RpA K F vs ds
  | .od kvs, A => ∃ l us A', o = some (.ref l) ∧ A = l :: A' ∧ H l = some (.dK us) ∧ DlOk K F H us kvs A'
  | .tx ps, A => ∃ t vs, o = some (.ref t) ∧ F t = some (.tup vs) ∧ PtsOk K F H vs ps A
  | .al i, A => A = [] ∧ ∃ v, o = some v ∧ σ[i]? = some (some v)
  | .br d, A => A = [] ∧ ∃ v, o = some v ∧ Rp K H v d
noncomputable def Sl.isBr : Sl → Bool
  | .br _ => true
  | _ => false
noncomputable def Sl.isAl : Sl → Bool
  | .al _ => true
  | .br _ => true
  | _ => false
section
variable {K : PySem.W.Frag} {F F' H H' : Hp} {σ σ' : L2.St}
theorem PtsOk.stay (s : Same F F') : ∀ {vs : List V} {ps : List Pt} {A : List Addr}, (∀ b ∈ A, H' b = H b) → PtsOk K F H vs ps A → PtsOk K F' H' vs ps A
  | [], [], A, _, h => h
  | v :: vs, .fl d :: ps, A, e, h => ⟨h.1.same s, PtsOk.stay s e h.2⟩
  | v :: vs, .ol ds :: ps, A, e, h => by
    obtain ⟨l, us, A', rfl, rfl, hl, hr, q⟩ := h
    exact ⟨l, us, A', rfl, rfl, (e l (List.mem_cons_self ..)).trans hl, hr.same s, q.stay s fun b hb => e b (List.mem_cons_of_mem _ hb)⟩
  | [], _ :: _, _, _, h => False.elim h
  | _ :: _, [], _, _, h => False.elim h
theorem DlOk.stay (s : Same F F') : ∀ {us : List (Key × V)} {kvs : List (Key × List PyData)} {A : List Addr}, (∀ b ∈ A, H' b = H b) → DlOk K F H us kvs A → DlOk K F' H' us kvs A
  | [], [], A, _, h => h
  | p :: us, q :: kvs, A, e, h => by
    obtain ⟨l, vs, A', rfl, rfl, hl, hr, k⟩ := h
    exact ⟨l, vs, A', rfl, rfl, (e l (List.mem_cons_self ..)).trans hl, hr.same s, k.stay s fun b hb => e b (List.mem_cons_of_mem _ hb)⟩
  | [], _ :: _, _, _, h => False.elim h
  | _ :: _, [], _, _, h => False.elim h
theorem DlOk.some : ∀ {us : List (Key × V)} {kvs : List (Key × List PyData)} {A : List Addr}, DlOk K F H us kvs A → ∀ a ∈ A, ∃ vs, H a = some (.lst vs)
  | [], [], A, h, a, ha => by rw [show A = [] from h] at ha; cases ha
  | p :: us, q :: kvs, A, h, a, ha => by
    obtain ⟨l, vs, A', rfl, rfl, hl, hr, k⟩ := h
    rcases List.mem_cons.mp ha with e | e
    · subst e; exact ⟨vs, hl⟩
    · exact k.some a e
  | [], _ :: _, _, h, _, _ => False.elim h
  | _ :: _, [], _, h, _, _ => False.elim h
theorem PtsOk.some : ∀ {vs : List V} {ps : List Pt} {A : List Addr}, PtsOk K F H vs ps A → ∀ a ∈ A, ∃ us, H a = some (.lst us)
  | [], [], A, h, a, ha => by rw [show A = [] from h] at ha; cases ha
  | v :: vs, .fl d :: ps, A, h, a, ha => PtsOk.some h.2 a ha
  | v :: vs, .ol ds :: ps, A, h, a, ha => by
    obtain ⟨l, us, A', rfl, rfl, hl, hr, q⟩ := h
    rcases List.mem_cons.mp ha with e | e
    · subst e; exact ⟨us, hl⟩
    · exact q.some a e
  | [], _ :: _, _, h, _, _ => False.elim h
  | _ :: _, [], _, h, _, _ => False.elim h
theorem PtsOk.rp (s : Same F H) : ∀ {vs : List V} {ps : List Pt} {A : List Addr}, PtsOk K F H vs ps A → RpA K H vs (ps.map Pt.val)
  | [], [], A, _ => .nil
  | v :: vs, .fl d :: ps, A, h => .cons (h.1.same s) (PtsOk.rp s h.2)
  | v :: vs, .ol ds :: ps, A, h => by
    obtain ⟨l, us, A', rfl, rfl, hl, hr, q⟩ := h
    exact .cons (.lst (SqL.of hl) (hr.same s)) (q.rp s)
  | [], _ :: _, _, h => False.elim h
  | _ :: _, [], _, h => False.elim h
theorem SlOk.stay {o : Option V} {s : Sl} {A : List Addr} (hF : Same F F') (e : ∀ b ∈ A, H' b = H b) (hb : s.isBr = true → Same H H') (h : SlOk K F H σ o s A) : SlOk K F' H' σ o s A := by
  cases s with
  | no => exact h
  | sh d => obtain ⟨rfl, v, rfl, r⟩ := h; exact ⟨rfl, v, rfl, r.same hF⟩
  | ow ds => obtain ⟨l, vs, rfl, rfl, hl, r⟩ := h; exact ⟨l, vs, rfl, rfl, (e l (by simp)).trans hl, r.same hF⟩
  | od kvs => obtain ⟨l, us, A', rfl, rfl, hl, r⟩ := h; exact ⟨l, us, A', rfl, rfl, (e l (by simp)).trans hl, r.stay hF fun b hb => e b (List.mem_cons_of_mem _ hb)⟩
  | tx ps => obtain ⟨t, vs, rfl, ht, r⟩ := h; exact ⟨t, vs, rfl, hF _ _ ht, r.stay hF e⟩
  | al i => exact h
  | br d => obtain ⟨rfl, v, rfl, r⟩ := h; exact ⟨rfl, v, rfl, r.same (hb rfl)⟩
theorem SlOk.mut {o : Option V} {s : Sl} {A : List Addr} (h : SlOk K F H σ o s A) : ∀ a ∈ A, (∃ us, H a = some (.lst us)) ∨ ∃ us, H a = some (.dK us) := by
  cases s with
  | no => intro a ha; rw [show A = [] from h] at ha; cases ha
  | sh d => obtain ⟨rfl, _⟩ := h; intro a ha; cases ha
  | ow ds => obtain ⟨l, vs, rfl, rfl, hl, r⟩ := h; intro a ha; rw [List.mem_singleton.mp ha]; exact .inl ⟨_, hl⟩
  | od kvs =>
    obtain ⟨l, vs, A', rfl, rfl, hl, r⟩ := h
    intro a ha
    rcases List.mem_cons.mp ha with z | z
    · rw [z]; exact .inr ⟨_, hl⟩
    · exact .inl (r.some a z)
  | tx ps => obtain ⟨t, vs, rfl, ht, r⟩ := h; exact fun a ha => .inl (r.some a ha)
  | al i => obtain ⟨rfl, _⟩ := h; intro a ha; cases ha
  | br d => obtain ⟨rfl, _⟩ := h; intro a ha; cases ha
end
inductive SAll (P : Option V → Sl → List Addr → Prop) : List (Option V) → List Sl → List Addr → Prop
  | nil : SAll P [] [] []
  | cons {o : Option V} {s : Sl} {A : List Addr} {os : List (Option V)} {ss : List Sl} {B : List Addr} : P o s A → SAll P os ss B → SAll P (o :: os) (s :: ss) (A ++ B)
section
variable {P P' : Option V → Sl → List Addr → Prop}
theorem SAll.len : ∀ {os : List (Option V)} {ss : List Sl} {A : List Addr}, SAll P os ss A → os.length = ss.length
  | _, _, _, .nil => rfl
  | _, _, _, .cons _ r => congrArg (· + 1) r.len
theorem SAll.mono : ∀ {os : List (Option V)} {ss : List Sl} {A : List Addr}, SAll P os ss A → (∀ o s B, s ∈ ss → (∀ b ∈ B, b ∈ A) → P o s B → P' o s B) → SAll P' os ss A
  | _, _, _, .nil, _ => .nil
  | _, _, _, .cons h r, f => .cons (f _ _ _ (List.mem_cons_self ..) (fun b hb => List.mem_append_left _ hb) h) (r.mono fun o s B hs hB q => f o s B (List.mem_cons_of_mem _ hs) (fun b hb => List.mem_append_right _ (hB b hb)) q)
theorem SAll.all {R : Addr → Prop} (hR : ∀ o s B, P o s B → ∀ b ∈ B, R b) : ∀ {os : List (Option V)} {ss : List Sl} {A : List Addr}, SAll P os ss A → ∀ a ∈ A, R a
  | _, _, _, .nil, a, ha => by cases ha
  | _, _, _, .cons h r, a, ha => (List.mem_append.mp ha).elim (hR _ _ _ h a) (r.all hR a)
theorem SAll.at : ∀ {os : List (Option V)} {ss : List Sl} {A : List Addr} {k : Nat} {s : Sl}, SAll P os ss A → ss[k]? = some s →
    ∃ o A0 A1 A2, A = A0 ++ (A1 ++ A2) ∧ os[k]? = some o ∧ P o s A1 ∧ ∀ (P' : Option V → Sl → List Addr → Prop) (o' : Option V) (s' : Sl) (A1' : List Addr), P' o' s' A1' →
      (∀ o s B, s ∈ ss → (∀ b ∈ B, b ∈ A0 ∨ b ∈ A2) → P o s B → P' o s B) → SAll P' (os.set k o') (ss.set k s') (A0 ++ (A1' ++ A2))
  | _, _, _, _, _, .nil, e => by simp at e
  | _, _, _, 0, s, .cons (o := o) (A := A) (B := B) h r, e => by
    simp at e; subst e
    refine ⟨o, [], A, B, by simp, rfl, h, fun P' o' s' A1' h' f => ?_⟩
    have z : SAll P' _ _ (A1' ++ B) := .cons h' (r.mono (P' := P') fun o s B hs hB q => f o s B (List.mem_cons_of_mem _ hs) (fun b hb => .inr (hB b hb)) q)
    exact z
  | _, _, _, k + 1, s, .cons (o := o) (A := A) (B := B) h r, e => by
    obtain ⟨o2, A0, A1, A2, eA, eo, hp, f⟩ := r.at (k := k) (s := s) (by simpa using e)
    subst eA
    refine ⟨o2, A ++ A0, A1, A2, by simp, by simpa using eo, hp, fun P' o' s' A1' h' g => ?_⟩
    have z := f P' o' s' A1' h' fun o s B hs hB q => g o s B (List.mem_cons_of_mem _ hs) (fun b hb => (hB b hb).imp (fun x => List.mem_append_right _ x) id) q
    rw [List.append_assoc]
    exact .cons (g _ _ _ (List.mem_cons_self ..) (fun b hb => .inl (List.mem_append_left _ hb)) h) z
end
end PL
namespace PL
open PySem L2 Nh
noncomputable abbrev Sg := L2.St
structure FrF (K : PySem.W.Frag) (B F : Hp) (A : List Addr) (σ : Sg) (H : Hp) (E : List Sl) (xs : List V) (Xs : List Sl) : Prop where
  bf : Same B F
  fh : Same F H
  tf : Same (tups H) F
  sl : SAll (SlOk K F H σ) (xs.map some ++ σ) (Xs ++ E) A
  nd : A.Nodup
  fr : ∀ a ∈ A, F a = none
  len : xs.length = Xs.length
  pl : ∀ s ∈ E, s.isAl = false
noncomputable def Frm (K : PySem.W.Frag) (B : Hp) (σ : Sg) (H : Hp) (E : List Sl) (xs : List V) (Xs : List Sl) : Prop := ∃ F A, FrF K B F A σ H E xs Xs
noncomputable def Sl.val : Sl → Option PyData
  | .sh d => some d
  | .ow ds => some (.list ds)
  | .tx ps => some (.tuple (ps.map Pt.val))
  | .br d => some d
  | _ => none
noncomputable def look (E : List Sl) : Sl → Option PyData
  | .al i => (E[i]?).bind Sl.val
  | s => s.val
noncomputable def hot1 : Sl → Bool
  | .br _ => true
  | .tx _ => true
  | _ => false
noncomputable def hot (E : List Sl) : Sl → Bool
  | .al i => (E[i]?).any hot1
  | s => hot1 s
noncomputable def RpF (K : PySem.W.Frag) (F H : Hp) (v : V) : PyData → Prop
  | .list ds => ∃ a vs, v = .ref a ∧ SqL K H a vs ∧ RpA K F vs ds
  | d => Rp K F v d
noncomputable def over (F H : Hp) (A : List Addr) : Hp := fun b => if b ∈ A then H b else F b
theorem over_in {F H : Hp} {A : List Addr} {b : Addr} (h : b ∈ A) : over F H A b = H b := if_pos h
theorem over_out {F H : Hp} {A : List Addr} {b : Addr} (h : b ∉ A) : over F H A b = F b := if_neg h
section
variable {K : PySem.W.Frag} {B F : Hp} {A : List Addr} {σ : Sg} {H : Hp} {E : List Sl} {xs : List V} {Xs : List Sl} {v : V} {s : Sl} {d : PyData}
theorem RpF.of (h : Rp K F v d) (s : Same F H) : RpF K F H v d := by
  cases h with
  | lst h r => exact ⟨_, _, rfl, s.seq h, r⟩
  | non => exact .non
  | bl b => exact .bl b
  | int i => exact .int i
  | str x => exact .str x
  | tup h r => exact .tup h r
  | dct h r => exact .dct h r
theorem SlOk.val {o : Option V} {A1 : List Addr} (h : SlOk K F H σ o s A1) (hF : Same F H) (e : s.val = some d) : ∃ v, o = some v ∧ Rp K H v d ∧ (hot1 s = false → RpF K F H v d) := by
  cases s with
  | no => cases e
  | sh d' =>
    obtain ⟨rfl, v, rfl, r⟩ := h
    cases e
    exact ⟨v, rfl, r.same hF, fun _ => RpF.of r hF⟩
  | ow ds =>
    obtain ⟨l, vs, rfl, rfl, hl, r⟩ := h
    cases e
    exact ⟨_, rfl, .lst (SqL.of hl) (r.same hF), fun _ => ⟨_, _, rfl, SqL.of hl, r⟩⟩
  | od kvs => cases e
  | tx ps =>
    obtain ⟨t, vs, rfl, ht, r⟩ := h
    cases e
    exact ⟨_, rfl, .tup (SqT.of (hF _ _ ht)) (r.rp hF), fun z => by cases z⟩
  | al i => cases e
  | br d' =>
    obtain ⟨rfl, v, rfl, r⟩ := h
    cases e
    exact ⟨v, rfl, r, fun z => by cases z⟩
theorem FrF.slen (h : FrF K B F A σ H E xs Xs) : σ.length = E.length := by
  have e := h.sl.len
  have := h.len
  simp only [List.length_append, List.length_map] at e
  omega
theorem FrF.var {i : Nat} (h : FrF K B F A σ H E xs Xs) (e : E[i]? = some s) : ∃ o A1, σ[i]? = some o ∧ SlOk K F H σ o s A1 := by
  obtain ⟨o, A0, A1, A2, eA, eo, hp, _⟩ := h.sl.at (k := Xs.length + i) (s := s) (by rw [List.getElem?_append_right (by omega)]; simpa using e)
  rw [List.getElem?_append_right (by rw [List.length_map, h.len]; omega), List.length_map, h.len, Nat.add_sub_cancel_left] at eo
  exact ⟨o, A1, eo, hp⟩
theorem FrF.ext {k : Nat} (h : FrF K B F A σ H E xs Xs) (e : Xs[k]? = some s) : ∃ v A1, xs[k]? = some v ∧ SlOk K F H σ (some v) s A1 := by
  have hk : k < Xs.length := (List.getElem?_eq_some_iff.mp e).1
  obtain ⟨o, A0, A1, A2, eA, eo, hp, _⟩ := h.sl.at (k := k) (s := s) (by rw [List.getElem?_append_left hk]; exact e)
  rw [List.getElem?_append_left (by rw [List.length_map, h.len]; omega), List.getElem?_map] at eo
  cases q : xs[k]? with
  | none => rw [q] at eo; cases eo
  | some v => rw [q] at eo; cases eo; exact ⟨v, A1, rfl, hp⟩
theorem FrF.look {k : Nat} (h : FrF K B F A σ H E xs Xs) (e : Xs[k]? = some s) (q : look E s = some d) : ∃ v, xs[k]? = some v ∧ Rp K H v d ∧ (hot E s = false → RpF K F H v d) := by
  obtain ⟨v, A1, ev, hs⟩ := h.ext e
  cases s with
  | al i =>
    obtain ⟨rfl, w, ew, hw⟩ := hs
    cases ew
    cases ei : E[i]? with
    | none => simp [PL.look, ei] at q
    | some t =>
      obtain ⟨o, A2, eo, ht⟩ := h.var ei
      rw [hw] at eo
      cases eo
      obtain ⟨v', e', r, c⟩ := ht.val h.fh (d := d) (by simpa [PL.look, ei] using q)
      cases e'
      exact ⟨v, ev, r, fun z => c (by simpa [hot, ei] using z)⟩
  | no => cases q
  | od kvs => cases q
  | sh d' => obtain ⟨v', e', r, c⟩ := hs.val h.fh q; cases e'; exact ⟨v, ev, r, c⟩
  | ow ds => obtain ⟨v', e', r, c⟩ := hs.val h.fh q; cases e'; exact ⟨v, ev, r, c⟩
  | tx ps => obtain ⟨v', e', r, c⟩ := hs.val h.fh q; cases e'; exact ⟨v, ev, r, c⟩
  | br d' => obtain ⟨v', e', r, c⟩ := hs.val h.fh q; cases e'; exact ⟨v, ev, r, c⟩
theorem FrF.look0 (h : FrF K B F A σ H E (v :: xs) (s :: Xs)) (q : PL.look E s = some d) : Rp K H v d ∧ (hot E s = false → RpF K F H v d) := by
  obtain ⟨v', e, r⟩ := h.look (k := 0) rfl q
  cases e
  exact r
theorem FrF.look1 {w : V} {t : Sl} (h : FrF K B F A σ H E (w :: v :: xs) (t :: s :: Xs)) (q : PL.look E s = some d) : Rp K H v d ∧ (hot E s = false → RpF K F H v d) := by
  obtain ⟨v', e, r⟩ := h.look (k := 1) rfl q
  cases e
  exact r
theorem FrF.mutA (h : FrF K B F A σ H E xs Xs) : ∀ a ∈ A, (∃ us, H a = some (.lst us)) ∨ ∃ us, H a = some (.dK us) :=
  SAll.all (R := fun a => (∃ us, H a = some (.lst us)) ∨ ∃ us, H a = some (.dK us)) (fun _ _ _ q => q.mut) h.sl
theorem FrF.newA {p : Addr} (h : FrF K B F A σ H E xs Xs) (hp : H p = none) : p ∉ A := fun hm => by
  rcases h.mutA p hm with ⟨_, z⟩ | ⟨_, z⟩ <;> rw [hp] at z <;> cases z
theorem FrF.cold {u : V} {e : PyData} (h : FrF K B F A σ H E xs Xs) (r : Rp K H u e) (f : flat e = true) : Rp K F u e := (r.cold f).same h.tf
theorem FrF.coldA {us : List V} {es : List PyData} (h : FrF K B F A σ H E xs Xs) (r : RpA K H us es) (f : flatA es = true) : RpA K F us es := (r.cold f).same h.tf
theorem FrF.push (h : FrF K B F A σ H E xs Xs) (q : SlOk K F H σ (some v) s []) : FrF K B F A σ H E (v :: xs) (s :: Xs) :=
  ⟨h.bf, h.fh, h.tf, .cons (A := []) q h.sl, h.nd, h.fr, by simp [h.len], h.pl⟩
theorem FrF.pop (h : FrF K B F A σ H E (v :: xs) (s :: Xs)) : ∃ A', FrF K B F A' σ H E xs Xs := by
  obtain ⟨bf, fh, tf, sl, nd, fr, len, pl⟩ := h
  generalize hT : List.map some (v :: xs) ++ σ = T at sl
  generalize hS : (s :: Xs) ++ E = S at sl
  cases sl with
  | nil => cases hS
  | cons q r =>
    injection hT with _ hT
    injection hS with _ hS
    subst hT hS
    exact ⟨_, bf, fh, tf, r, (List.nodup_append.mp nd).2.1, fun a ha => fr a (List.mem_append_right _ ha), by simpa using len, pl⟩
theorem FrF.grow {H' : Hp} (h : FrF K B F A σ H E xs Xs) (g : Same H H') : FrF K B (fun b => if b ∈ A then none else H' b) A σ H' E xs Xs := by
  have nF : ∀ b o, F b = some o → b ∉ A := fun b o e hb => by rw [h.fr b hb] at e; cases e
  have FF : Same F (fun b => if b ∈ A then none else H' b) := fun b o e => by
    show (if b ∈ A then none else H' b) = some o
    rw [if_neg (nF b o e)]
    exact g _ _ (h.fh _ _ e)
  have hA : ∀ b ∈ A, H' b = H b := fun b hb => by
    rcases h.mutA b hb with ⟨_, z⟩ | ⟨_, z⟩ <;> rw [z, g _ _ z]
  refine ⟨h.bf.trans FF, fun b o e => ?_, fun b o e => ?_, h.sl.mono fun o s C _ hC q => q.stay FF (fun b hb => hA b (hC b hb)) fun _ => g, h.nd, fun a ha => if_pos ha, h.len, h.pl⟩
  · by_cases hb : b ∈ A
    · rw [if_pos hb] at e; cases e
    · rw [if_neg hb] at e; exact e
  · obtain ⟨e1, e2⟩ := Option.filter_eq_some_iff.mp e
    show (if b ∈ A then none else H' b) = some o
    by_cases hb : b ∈ A
    · rw [hA b hb] at e1
      rcases h.mutA b hb with ⟨_, z⟩ | ⟨_, z⟩ <;> rw [z] at e1 <;> cases e1 <;> cases e2
    · rw [if_neg hb]; exact e1
theorem FrF.newl {p : Addr} {vs : List V} {ds : List PyData} (h : FrF K B F A σ H E xs Xs) (r : RpA K F vs ds) (hp : H p = none) : FrF K B F (p :: A) σ (upd H p (.lst vs)) E (.ref p :: xs) (.ow ds :: Xs) := by
  have g : Same H (upd H p (.lst vs)) := same_new hp _
  have nA := h.newA hp
  refine ⟨h.bf, h.fh.trans g, fun b o e => ?_, .cons (A := [p]) ⟨p, vs, rfl, rfl, upd_same, r⟩ (h.sl.mono fun o s C _ hC q => q.stay (Same.refl _) (fun b hb => upd_ne fun z => nA (z ▸ hC b hb)) fun _ => g), List.nodup_cons.mpr ⟨nA, h.nd⟩, fun a ha => ?_, by simp [h.len], h.pl⟩
  · obtain ⟨e1, e2⟩ := Option.filter_eq_some_iff.mp e
    by_cases hb : b = p
    · subst hb; rw [upd_same] at e1; cases e1; cases e2
    · rw [upd_ne hb] at e1; exact h.tf b o (tups_of e1 e2)
  · rcases List.mem_cons.mp ha with z | z
    · subst z; exact h.fh.free hp
    · exact h.fr a z
theorem FrF.newt {p : Addr} {vs : List V} {ds : List PyData} (h : FrF K B F A σ H E xs Xs) (r : RpA K F vs ds) (hp : H p = none) : FrF K B (upd F p (.tup vs)) A σ (upd H p (.tup vs)) E (.ref p :: xs) (.sh (.tuple ds) :: Xs) := by
  have g : Same H (upd H p (.tup vs)) := same_new hp _
  have nA := h.newA hp
  have gF : Same F (upd F p (.tup vs)) := same_new (h.fh.free hp) _
  refine ⟨h.bf.trans gF, fun b o e => ?_, fun b o e => ?_, .cons (A := []) ⟨rfl, _, rfl, .tup (.inl (.inl upd_same)) (r.same gF)⟩ (h.sl.mono fun o s C _ hC q => q.stay gF (fun b hb => upd_ne fun z => nA (z ▸ hC b hb)) fun _ => g), h.nd, fun a ha => ?_, by simp [h.len], h.pl⟩
  · by_cases hb : b = p
    · subst hb; rw [upd_same] at e ⊢; exact e
    · rw [upd_ne hb] at e ⊢; exact h.fh _ _ e
  · obtain ⟨e1, e2⟩ := Option.filter_eq_some_iff.mp e
    by_cases hb : b = p
    · subst hb; rw [upd_same] at e1 ⊢; exact e1
    · rw [upd_ne hb] at e1 ⊢; exact h.tf b o (tups_of e1 e2)
  · have ne : a ≠ p := fun z => nA (z ▸ ha)
    rw [upd_ne ne]; exact h.fr a ha
theorem FrF.mut {i : Nat} {ds : List PyData} (h : FrF K B F A σ H E xs Xs) (e : E[i]? = some (.ow ds)) (c : ∀ s ∈ Xs, s.isBr = false) :
    ∃ l vs, σ[i]? = some (some (.ref l)) ∧ H l = some (.lst vs) ∧ RpA K F vs ds ∧ ∀ vs' ds', RpA K F vs' ds' → FrF K B F A σ (upd H l (.lst vs')) (E.set i (.ow ds')) xs Xs := by
  obtain ⟨o, A0, A1, A2, eA, eo, hp, put⟩ := h.sl.at (k := Xs.length + i) (s := .ow ds) (by rw [List.getElem?_append_right (by omega)]; simpa using e)
  rw [List.getElem?_append_right (by rw [List.length_map, h.len]; omega), List.length_map, h.len, Nat.add_sub_cancel_left] at eo
  obtain ⟨l, vs, rfl, rfl, hl, r⟩ := hp
  refine ⟨l, vs, eo, hl, r, fun vs' ds' r' => ?_⟩
  have hlA : l ∈ A := by rw [eA]; simp
  have nl : ∀ b, b ∈ A0 ∨ b ∈ A2 → b ≠ l := fun b hb z => by
    subst z
    have nd := h.nd
    rw [eA] at nd
    rcases hb with hb | hb
    · exact (List.nodup_append.mp nd).2.2 b hb b (by simp) rfl
    · exact (List.nodup_append.mp (List.nodup_append.mp nd).2.1).2.2 b (by simp) b hb rfl
  have lF : F l = none := h.fr l hlA
  have z := put (SlOk K F (upd H l (.lst vs')) σ) (some (.ref l)) (.ow ds') [l] ⟨l, vs', rfl, rfl, upd_same, r'⟩ fun o s C hs hC q => q.stay (Same.refl _) (fun b hb => upd_ne (nl b (hC b hb))) fun z => by
    rcases List.mem_append.mp hs with hs | hs
    · rw [c s hs] at z; cases z
    · have := h.pl s hs
      cases s <;> simp [Sl.isAl, Sl.isBr] at this z
  have e3 : (Xs ++ E).set (Xs.length + i) (.ow ds') = Xs ++ E.set i (.ow ds') := by
    rw [List.set_append_right _ _ (by omega), Nat.add_sub_cancel_left]
  have e2 : (List.map some xs ++ σ).set (Xs.length + i) (some (V.ref l)) = List.map some xs ++ σ := by
    rw [← h.len, List.set_append_right _ _ (by rw [List.length_map]; omega), List.length_map, Nat.add_sub_cancel_left]
    congr 1
    exact List.ext_getElem? fun j => by
      by_cases hj : i = j
      · subst hj
        rw [List.getElem?_set_self' , eo]; rfl
      · rw [List.getElem?_set_ne hj]
  rw [e2, e3, ← eA] at z
  refine ⟨h.bf, fun b o q => ?_, ?_, z, h.nd, h.fr, h.len, fun s hs => ?_⟩
  · rw [upd_ne (fun z => by rw [z, lF] at q; cases q)]
    exact h.fh _ _ q
  · rw [tups_upd hl]; exact h.tf
  · rcases List.mem_or_eq_of_mem_set hs with hs | hs
    · exact h.pl s hs
    · subst hs; rfl
theorem FrF.frzAt {k : Nat} (h : FrF K B F A σ H E xs Xs) (e : (Xs ++ E)[k]? = some s) (q : s.val = some d) (c : s.isAl = false) :
    ∃ F' A' v, (xs.map some ++ σ)[k]? = some (some v) ∧ Rp K F' v d ∧ Same B F' ∧ Same F' H ∧ Same (tups H) F' ∧ SAll (SlOk K F' H σ) (xs.map some ++ σ) ((Xs ++ E).set k (.sh d)) A' ∧ A'.Nodup ∧ ∀ a ∈ A', F' a = none := by
  obtain ⟨o, A0, A1, A2, eA, eo, hp, put⟩ := h.sl.at e
  have nd := h.nd
  rw [eA] at nd
  have nA1 : ∀ b o, F b = some o → b ∉ A1 := fun b o e hb => by
    have := h.fr b (by rw [eA]; simp [hb])
    rw [this] at e; cases e
  have FF : Same F (over F H A1) := fun b o e => by rw [over_out (nA1 b o e)]; exact e
  obtain ⟨v, rfl, r⟩ : ∃ v, o = some v ∧ Rp K (over F H A1) v d := by
    cases s with
    | no => cases q
    | od kvs => cases q
    | al i => cases c
    | br d' => cases c
    | sh d' =>
      obtain ⟨rfl, v, rfl, r⟩ := hp
      cases q
      exact ⟨v, rfl, r.same FF⟩
    | ow ds =>
      obtain ⟨l, vs, rfl, rfl, hl, r⟩ := hp
      cases q
      exact ⟨_, rfl, .lst (SqL.of ((over_in (by simp)).trans hl)) (r.same FF)⟩
    | tx ps =>
      obtain ⟨t, vs, rfl, ht, r⟩ := hp
      cases q
      refine ⟨_, rfl, .tup (SqT.of (FF _ _ ht)) ?_⟩
      have r' : PtsOk K (over F H A1) (over F H A1) vs ps A1 := r.stay FF fun b hb => over_in hb
      exact r'.rp (Same.refl _)
  have e2 : (List.map some xs ++ σ).set k (some v) = List.map some xs ++ σ := List.ext_getElem? fun j => by
    by_cases hj : k = j
    · subst hj
      rw [List.getElem?_set_self', eo]; rfl
    · rw [List.getElem?_set_ne hj]
  have z := put (SlOk K (over F H A1) H σ) (some v) (.sh d) [] ⟨rfl, v, rfl, r⟩ fun o s C _ hC q => q.stay FF (fun b _ => rfl) fun _ => Same.refl _
  rw [e2] at z
  refine ⟨over F H A1, A0 ++ A2, v, eo, r, h.bf.trans FF, fun b o e => ?_, fun b o e => FF _ _ (h.tf _ _ e), by simpa using z, ?_, fun a ha => ?_⟩
  · by_cases hb : b ∈ A1
    · rw [over_in hb] at e; exact e
    · rw [over_out hb] at e; exact h.fh _ _ e
  · exact List.Nodup.sublist (List.Sublist.append (List.Sublist.refl _) (List.sublist_append_right _ _)) nd
  · have hn : a ∉ A1 := fun hm => by
      rcases List.mem_append.mp ha with z | z
      · exact (List.nodup_append.mp nd).2.2 a z a (by simp [hm]) rfl
      · exact (List.nodup_append.mp (List.nodup_append.mp nd).2.1).2.2 a hm a z rfl
    rw [over_out hn]
    exact h.fr a (by rw [eA]; rcases List.mem_append.mp ha with z | z <;> simp [z])
end
noncomputable def frz (E : List Sl) : Sl → Option (PyData × List Sl)
  | .sh d => some (d, E)
  | .ow ds => some (.list ds, E)
  | .tx ps => some (.tuple (ps.map Pt.val), E)
  | .br d => if flat d then some (d, E) else none
  | .al i => match E[i]? with
    | some (.sh d) => some (d, E)
    | some (.ow ds) => some (.list ds, E.set i (.sh (.list ds)))
    | some (.tx ps) => some (.tuple (ps.map Pt.val), E.set i (.sh (.tuple (ps.map Pt.val))))
    | _ => none
  | _ => none
section
variable {K : PySem.W.Frag} {B F : Hp} {A : List Addr} {σ : Sg} {H : Hp} {E E' : List Sl} {xs : List V} {Xs : List Sl} {v : V} {s : Sl} {d : PyData}
theorem FrF.frzVar {i : Nat} (h : FrF K B F A σ H E xs Xs) (e : E[i]? = some s) (q : s.val = some d) : ∃ F' A' v, σ[i]? = some (some v) ∧ Rp K F' v d ∧ FrF K B F' A' σ H (E.set i (.sh d)) xs Xs := by
  obtain ⟨F', A', v, ev, r, b1, b2, b3, sl, nd, fr⟩ := h.frzAt (k := Xs.length + i) (by rw [List.getElem?_append_right (by omega)]; simpa using e) q (h.pl s (List.mem_of_getElem? e))
  rw [List.getElem?_append_right (by rw [List.length_map, h.len]; omega), List.length_map, h.len, Nat.add_sub_cancel_left] at ev
  have e3 : (Xs ++ E).set (Xs.length + i) (.sh d) = Xs ++ E.set i (.sh d) := by
    rw [List.set_append_right _ _ (by omega), Nat.add_sub_cancel_left]
  rw [e3] at sl
  refine ⟨F', A', v, ev, r, b1, b2, b3, sl, nd, fr, h.len, fun s hs => ?_⟩
  rcases List.mem_or_eq_of_mem_set hs with hs | hs
  · exact h.pl s hs
  · subst hs; rfl
theorem FrF.frz0 (h : FrF K B F A σ H E (v :: xs) (s :: Xs)) (q : PL.frz E s = some (d, E')) : ∃ F' A', FrF K B F' A' σ H E' (v :: xs) (.sh d :: Xs) := by
  have key : s.val = some d → s.isAl = false → E = E' → ∃ F' A', FrF K B F' A' σ H E' (v :: xs) (.sh d :: Xs) := fun q' c e => by
    subst e
    obtain ⟨F', A', v', ev, r, b1, b2, b3, sl, nd, fr⟩ := h.frzAt (k := 0) rfl q' c
    exact ⟨F', A', b1, b2, b3, sl, nd, fr, by simpa using h.len, h.pl⟩
  have al : ∀ i t, s = .al i → E[i]? = some t → t.val = some d → E' = E.set i (.sh d) → ∃ F' A', FrF K B F' A' σ H E' (v :: xs) (.sh d :: Xs) := fun i t es ei qt eE => by
    subst es eE
    obtain ⟨v', A1, ev, hs⟩ := h.ext (k := 0) rfl
    cases ev
    obtain ⟨rfl, w, ew, hw⟩ := hs
    cases ew
    obtain ⟨F', A', w, ew, r, h'⟩ := h.frzVar ei qt
    rw [hw] at ew
    cases ew
    obtain ⟨A2, h2⟩ := h'.pop
    exact ⟨F', A2, h2.push ⟨rfl, _, rfl, r⟩⟩
  cases s with
  | no => cases q
  | od kvs => cases q
  | sh d' => cases q; exact key rfl rfl rfl
  | ow ds => cases q; exact key rfl rfl rfl
  | tx ps => cases q; exact key rfl rfl rfl
  | br d' =>
    simp only [PL.frz] at q
    split at q
    · rename_i hf
      cases q
      obtain ⟨r, _⟩ := h.look0 (d := d) rfl
      obtain ⟨A2, h2⟩ := h.pop
      exact ⟨F, A2, h2.push ⟨rfl, _, rfl, h.cold r hf⟩⟩
    · cases q
  | al i =>
    simp only [PL.frz] at q
    split at q
    · rename_i d' ei
      cases q
      refine al i _ rfl ei rfl ?_
      exact List.ext_getElem? fun j => by
        by_cases hj : i = j
        · subst hj; rw [List.getElem?_set_self', ei]; rfl
        · rw [List.getElem?_set_ne hj]
    · rename_i ds ei
      cases q
      exact al i _ rfl ei rfl rfl
    · rename_i ps ei
      cases q
      exact al i _ rfl ei rfl rfl
    · cases q
theorem FrF.store {i : Nat} (h : FrF K B F A σ H E (v :: xs) (s :: Xs)) (c : s.isAl = false) (cx : ∀ s ∈ Xs, s.isAl = false) (hi : i < E.length) : ∃ A', FrF K B F A' (σ.set i (some v)) H (E.set i s) xs Xs := by
  have hlen := h.len
  have hsl := h.slen
  obtain ⟨bf, fh, tf, sl, nd, fr, len, pl⟩ := h
  generalize hT : List.map some (v :: xs) ++ σ = T at sl
  generalize hS : (s :: Xs) ++ E = S at sl
  cases sl with
  | nil => cases hS
  | cons q r =>
    rename_i A1 _ _ A2
    injection hT with h1 hT
    injection hS with h2 hS
    subst h1 h2 hT hS
    have len' : xs.length = Xs.length := by simpa using len
    have r : SAll (SlOk K F H σ) (List.map some xs ++ σ) (Xs ++ E) A2 := r
    obtain ⟨t, et⟩ : ∃ t, E[i]? = some t := ⟨E[i], List.getElem?_eq_getElem hi⟩
    obtain ⟨o, C0, C1, C2, eA, eo, hp, put⟩ := r.at (k := Xs.length + i) (s := t) (by rw [List.getElem?_append_right (by omega)]; simpa using et)
    have all : ∀ s' ∈ Xs ++ E, s'.isAl = false := fun s' hs => (List.mem_append.mp hs).elim (cx s') (pl s')
    have chg : ∀ (o : Option V) (s' : Sl) (C : List Addr), s'.isAl = false → SlOk K F H σ o s' C → SlOk K F H (σ.set i (some v)) o s' C := fun o s' C hc z => by
      cases s' <;> first | exact z | cases hc
    have z := put (SlOk K F H (σ.set i (some v))) (some v) s A1 (chg _ _ _ c q) fun o s' C hs _ z => chg o s' C (all s' hs) z
    have e3 : (Xs ++ E).set (Xs.length + i) s = Xs ++ E.set i s := by
      rw [List.set_append_right _ _ (by omega), Nat.add_sub_cancel_left]
    have e2 : (List.map some xs ++ σ).set (Xs.length + i) (some v) = List.map some xs ++ σ.set i (some v) := by
      rw [← len', List.set_append_right _ _ (by rw [List.length_map]; omega), List.length_map, Nat.add_sub_cancel_left]
    rw [e2, e3] at z
    refine ⟨_, bf, fh, tf, z, ?_, fun a ha => fr a ?_, len', fun s' hs => ?_⟩
    · rw [eA] at nd
      have p : (C0 ++ (A1 ++ C2)).Perm (A1 ++ (C0 ++ C2)) := by
        rw [← List.append_assoc, ← List.append_assoc]
        exact List.Perm.append_right _ List.perm_append_comm
      refine p.nodup_iff.mpr (List.Nodup.sublist ?_ nd)
      exact List.Sublist.append (List.Sublist.refl _) (List.Sublist.append (List.Sublist.refl _) (List.sublist_append_right _ _))
    · rw [eA]
      simp only [List.mem_append] at ha ⊢
      rcases ha with z | z | z
      · exact .inr (.inl z)
      · exact .inl z
      · exact .inr (.inr (.inr z))
    · rcases List.mem_or_eq_of_mem_set hs with hs | hs
      · exact pl s' hs
      · subst hs; exact c
end
end PL
namespace PL
open PySem L2 Nh
noncomputable abbrev PEv := List Sl → Option (Sl × List Sl)
noncomputable abbrev PTv := List Sl → Option (Bool × List Sl)
noncomputable abbrev PAv := List Sl → Option (List Sl × List Sl)
noncomputable abbrev PDv := List Sl → Option (List PyData × List Sl)
inductive Fl where
  | nx | bk | ct | rt (r : Sl)
noncomputable abbrev PSv := List Sl → Option (List Sl × Fl)
noncomputable abbrev Calm (Xs : List Sl) : Prop := ∀ s ∈ Xs, s.isBr = false
noncomputable abbrev Still (Xs : List Sl) : Prop := ∀ s ∈ Xs, s.isAl = false
theorem Still.calm {Xs : List Sl} (h : Still Xs) : Calm Xs := fun s hs => by
  have := h s hs
  cases s <;> simp [Sl.isAl, Sl.isBr] at this ⊢
theorem Still.nil {Xs : List Sl} (h : Xs = []) : Still Xs := fun s hs => by subst h; cases hs
theorem Calm.nil {Xs : List Sl} (h : Xs = []) : Calm Xs := (Still.nil h).calm
theorem Calm.cons {Xs : List Sl} {s : Sl} (h : Calm Xs) (hs : s.isBr = false) : Calm (s :: Xs) := fun t ht => (List.mem_cons.mp ht).elim (fun e => e ▸ hs) (h t)
noncomputable def rd (K : PySem.W.Frag) (m : Bool) (f : PEv) : TE := fun σ H Q => ∃ B E xs Xs r E', Frm K B σ H E xs Xs ∧ (m = true → Calm Xs) ∧ f E = some (r, E') ∧ ∀ v H', Frm K B σ H' E' (v :: xs) (r :: Xs) → Q v H'
noncomputable def rt (K : PySem.W.Frag) (m : Bool) (f : PTv) : TT := fun σ H Q => ∃ B E xs Xs b E', Frm K B σ H E xs Xs ∧ (m = true → Calm Xs) ∧ f E = some (b, E') ∧ ∀ H', Frm K B σ H' E' xs Xs → Q b H'
noncomputable def ra (K : PySem.W.Frag) (m : Bool) (f : PAv) : TA := fun σ H Q => ∃ B E xs Xs rs E', Frm K B σ H E xs Xs ∧ (m = true → Calm Xs) ∧ f E = some (rs, E') ∧ ∀ vs H', vs.length = rs.length → Frm K B σ H' E' (vs.reverse ++ xs) (rs.reverse ++ Xs) → Q vs H'
noncomputable def raD (K : PySem.W.Frag) (m : Bool) (f : PDv) : TA := fun σ H Q => ∃ B E xs Xs ds E', Frm K B σ H E xs Xs ∧ (m = true → Calm Xs) ∧ f E = some (ds, E') ∧ ∀ vs H', vs.length = ds.length → Frm K B σ H' E' (vs.reverse ++ xs) (ds.reverse.map .sh ++ Xs) → Q vs H'
noncomputable def rs (K : PySem.W.Frag) (g : PSv) : TS := fun D σ H => ∃ B E xs Xs E' fl, Frm K B σ H E xs Xs ∧ Xs = [] ∧ g E = some (E', fl) ∧ match fl with
  | .nx => ∀ σ' H', Frm K B σ' H' E' xs Xs → D.nx σ' H'
  | .bk => ∀ σ' H', Frm K B σ' H' E' xs Xs → D.bk σ' H'
  | .ct => ∀ σ' H', Frm K B σ' H' E' xs Xs → D.ct σ' H'
  | .rt r => ∀ σ' v H', Frm K B σ' H' E' (v :: xs) (r :: Xs) → D.rt v H'
noncomputable def EX (X : Cx) (e : Expr) (m : Bool) (f : PEv) : Prop := PE X e (rd X.K m f)
noncomputable def TX (X : Cx) (e : Expr) (m : Bool) (f : PTv) : Prop := PT X e (rt X.K m f)
noncomputable def WX (X : Cx) (e : Expr) (m : Bool) (f : PTv) : Prop := PW X e (rt X.K m f)
noncomputable def AX (X : Cx) (es : List Expr) (m : Bool) (f : PAv) : Prop := PA X es (ra X.K m f)
noncomputable def DX (X : Cx) (es : List Expr) (m : Bool) (f : PDv) : Prop := PA X es (raD X.K m f)
noncomputable def SX (X : Cx) (s : Stmt) (g : PSv) : Prop := PS X s (rs X.K g)
noncomputable def SSX (X : Cx) (s : List Stmt) (g : PSv) : Prop := PSs X s (rs X.K g)
section
variable {X : Cx}
theorem pe_imp {e : Expr} {t t' : TE} (h : PE X e t) (k : ∀ σ H Q, t' σ H Q → t σ H Q) : PE X e t' := fun pins s σ H Q I q => h pins s σ H Q I (k σ H Q q)
theorem pt_imp {e : Expr} {t t' : TT} (h : PT X e t) (k : ∀ σ H Q, t' σ H Q → t σ H Q) : PT X e t' := fun pins s σ H Q I q => h pins s σ H Q I (k σ H Q q)
theorem pw_imp {e : Expr} {t t' : TT} (h : PW X e t) (k : ∀ σ H Q, t' σ H Q → t σ H Q) : PW X e t' := fun whole pins s σ H Q I q => h whole pins s σ H Q I (k σ H Q q)
theorem pa_imp {es : List Expr} {t t' : TA} (h : PA X es t) (k : ∀ σ H Q, t' σ H Q → t σ H Q) : PA X es t' := fun pos pins s σ H Q I q => h pos pins s σ H Q I (k σ H Q q)
theorem ps_imp {st : Stmt} {t t' : TS} (h : PS X st t) (k : ∀ D σ H, t' D σ H → t D σ H) : PS X st t' := fun pins s σ H D I q => h pins s σ H D I (k D σ H q)
theorem pss_imp {st : List Stmt} {t t' : TS} (h : PSs X st t) (k : ∀ D σ H, t' D σ H → t D σ H) : PSs X st t' := fun pins s σ H D I q => h pins s σ H D I (k D σ H q)
end
noncomputable def ofD : PyData → Option V
  | .none => some .non
  | .bool b => some (.bl b)
  | .int i => some (.int i)
  | .str x => some (.str x)
  | _ => none
theorem ofD_rp {K : PySem.W.Frag} {H : Hp} {d : PyData} {v : V} (h : ofD d = some v) : Rp K H v d := by
  cases d <;> simp [ofD] at h <;> subst h <;> constructor
noncomputable def pVar (i : Nat) : PEv := fun E => match E[i]? with
  | some (.sh d) => some (.sh d, E)
  | some (.ow _) => some (.al i, E)
  | some (.od _) => some (.al i, E)
  | some (.tx _) => some (.al i, E)
  | _ => none
noncomputable def pC (d : PyData) : PEv := fun E => some (.sh d, E)
section
variable {X : Cx} {K : PySem.W.Frag}
theorem xe_var (i : Nat) {x : Str} {pos : Pos} (hN : X.N[i]? = some x := by rfl) (hv : Vis X.env.scope x := by first | exact Or.inl rfl | exact Or.inr (Or.inl rfl) | exact Or.inr (Or.inr rfl)) (hd : (x == ("__debug__" : Str)) = false := by decide)
    (hcd : (x == ("__classdict__" : Str)) = false := by decide) : EX X (.Name x pos) false (pVar i) := by
  refine pe_imp (pe_var hN hv hd hcd) fun σ H Q h => ?_
  obtain ⟨B, E, xs, Xs, r, E', ⟨F, A, fr⟩, _, e, q⟩ := h
  unfold pVar at e
  split at e
  · rename_i d ei
    cases e
    obtain ⟨o, A1, eo, rfl, v, rfl, rp⟩ := fr.var ei
    exact ⟨v, eo, q v H ⟨F, A, fr.push ⟨rfl, v, rfl, rp⟩⟩⟩
  · rename_i ds ei
    cases e
    obtain ⟨o, A1, eo, l, vs, rfl, _⟩ := fr.var ei
    exact ⟨_, eo, q _ H ⟨F, A, fr.push ⟨rfl, _, rfl, eo⟩⟩⟩
  · rename_i ds ei
    cases e
    obtain ⟨o, A1, eo, l, vs, A2, rfl, _⟩ := fr.var ei
    exact ⟨_, eo, q _ H ⟨F, A, fr.push ⟨rfl, _, rfl, eo⟩⟩⟩
  · rename_i ds ei
    cases e
    obtain ⟨o, A1, eo, l, vs, rfl, _⟩ := fr.var ei
    exact ⟨_, eo, q _ H ⟨F, A, fr.push ⟨rfl, _, rfl, eo⟩⟩⟩
  · cases e
theorem xe_c {e : Expr} {v : V} (d : PyData) (h : PE X e (tC v)) (hd : ofD d = some v := by rfl) : EX X e false (pC d) := by
  refine pe_imp h fun σ H Q h => ?_
  obtain ⟨B, E, xs, Xs, r, E', ⟨F, A, fr⟩, _, e, q⟩ := h
  cases e
  exact q v H ⟨F, A, fr.push ⟨rfl, v, rfl, ofD_rp hd⟩⟩
theorem xe_int {i j pos} : EX X (.Constant (.int i) j pos) false (pC (.int i)) := xe_c _ pe_int
theorem xe_bl {b j pos} : EX X (.Constant (.bool b) j pos) false (pC (.bool b)) := xe_c _ pe_bl
theorem xe_non {j pos} : EX X (.Constant .none j pos) false (pC .none) := xe_c _ pe_non
theorem xe_str {x j pos} : EX X (.Constant (.str x) j pos) false (pC (.str x)) := xe_c _ pe_str
end
noncomputable abbrev P2 := List Sl → Sl → Sl → Option (Sl × List Sl)
noncomputable def BinOk (K : PySem.W.Frag) (r : R2) (p : P2) : Prop := ∀ {B F : Hp} {A : List Addr} {σ : Sg} {H : Hp} {E : List Sl} {xs : List V} {Xs : List Sl} {v1 v2 : V} {s1 s2 res : Sl} {E' : List Sl} {Q : VK},
  FrF K B F A σ H E (v2 :: v1 :: xs) (s2 :: s1 :: Xs) → p E s1 s2 = some (res, E') → (∀ v H', Frm K B σ H' E' (v :: xs) (res :: Xs) → Q v H') → r v1 v2 H Q
noncomputable def pBin (p : P2) (m2 : Bool) (f g : PEv) : PEv := fun E => (f E).bind fun a => if m2 && a.1.isBr then none else (g a.2).bind fun b => p b.2 a.1 b.1
theorem rd_bin {K : PySem.W.Frag} {r : R2} {p : P2} (hp : BinOk K r p) {m1 m2 : Bool} {f g : PEv} {σ : Sg} {H : Hp} {Q : VK} (h : rd K (m1 || m2) (pBin p m2 f g) σ H Q) : tOp r (rd K m1 f) (rd K m2 g) σ H Q := by
  obtain ⟨B, E, xs, Xs, res, E', fr, c, e, q⟩ := h
  obtain ⟨⟨s1, E1⟩, e1, e⟩ := Option.bind_eq_some_iff.mp e
  by_cases hb : (m2 && s1.isBr) = true
  · rw [if_pos hb] at e; cases e
  rw [if_neg hb] at e
  obtain ⟨⟨s2, E2⟩, e2, e⟩ := Option.bind_eq_some_iff.mp e
  refine ⟨B, E, xs, Xs, s1, E1, fr, fun z => c (by simp [z]), e1, fun v1 H1 fr1 => ?_⟩
  refine ⟨B, E1, v1 :: xs, s1 :: Xs, s2, E2, fr1, fun z => ?_, e2, fun v2 H2 fr2 => ?_⟩
  · refine Calm.cons (c (by simp [z])) ?_
    cases hs : s1.isBr with
    | false => rfl
    | true => exact absurd (by simp [z, hs]) hb
  · obtain ⟨F, A, fr2⟩ := fr2
    exact hp fr2 e q
noncomputable def sc2 (op : PyData → PyData → Option PyData) : P2 := fun E s1 s2 => (look E s1).bind fun d1 => (look E s2).bind fun d2 => (op d1 d2).map fun d => (.sh d, E)
theorem FrF.res2 {K : PySem.W.Frag} {B F : Hp} {A : List Addr} {σ : Sg} {H : Hp} {E : List Sl} {xs : List V} {Xs : List Sl} {v1 v2 v : V} {s1 s2 s : Sl} (h : FrF K B F A σ H E (v2 :: v1 :: xs) (s2 :: s1 :: Xs)) (q : SlOk K F H σ (some v) s []) : Frm K B σ H E (v :: xs) (s :: Xs) := by
  obtain ⟨A1, h⟩ := h.pop
  obtain ⟨A2, h⟩ := h.pop
  exact ⟨F, A2, h.push q⟩
theorem sc2_ok {K : PySem.W.Frag} {r : R2} {op : PyData → PyData → Option PyData} (h : ∀ (d1 d2 d : PyData) (v1 v2 : V) (H : Hp) (Q : VK), op d1 d2 = some d → Rp K H v1 d1 → Rp K H v2 d2 → ∃ v, ofD d = some v ∧ (Q v H → r v1 v2 H Q)) : BinOk K r (sc2 op) := by
  intro B F A σ H E xs Xs v1 v2 s1 s2 res E' Q fr e q
  obtain ⟨d1, e1, e⟩ := Option.bind_eq_some_iff.mp e
  obtain ⟨d2, e2, e⟩ := Option.bind_eq_some_iff.mp e
  obtain ⟨d, e3, e⟩ := Option.map_eq_some_iff.mp e
  cases e
  obtain ⟨v, hv, k⟩ := h d1 d2 d v1 v2 H Q e3 (fr.look1 e1).1 (fr.look0 e2).1
  exact k (q v H (fr.res2 ⟨rfl, v, rfl, ofD_rp hv⟩))
section
variable {X : Cx} {a b : Expr} {m1 m2 : Bool} {f g : PEv} {pos : Pos}
theorem xe_op {op : Operator} {r : R2} {p : P2} (ho : OpR X (binaryOp op) r) (hp : BinOk X.K r p) (ha : EX X a m1 f) (hb : EX X b m2 g) : EX X (.BinOp a op b pos) (m1 || m2) (pBin p m2 f g) := pe_imp (pe_op ho ha hb) fun _ _ _ h => rd_bin hp h
theorem xe_cmp {op : CmpOp} {r : R2} {p : P2} (ho : OpR X (compareOp op) r) (hp : BinOk X.K r p) (ha : EX X a m1 f) (hb : EX X b m2 g) (hm : behindInMarks op b = false) : EX X (.Compare a [op] [b] pos) (m1 || m2) (pBin p m2 f g) := pe_imp (pe_cmpR ho ha hb hm) fun _ _ _ h => rd_bin hp h
noncomputable def isB (f : PEv) : PTv := fun E => (f E).bind fun a => match a.1 with
  | .sh (.bool b) => some (b, a.2)
  | _ => none
theorem rt_isB {K : PySem.W.Frag} {m : Bool} {f : PEv} {σ : Sg} {H : Hp} {Q : Bool → Hp → Prop} (h : rt K m (isB f) σ H Q) : rd K m f σ H (fun x H' => ∃ k, x = .bl k ∧ Q k H') := by
  obtain ⟨B, E, xs, Xs, b, E', fr, c, e, q⟩ := h
  obtain ⟨⟨s, E1⟩, e1, e⟩ := Option.bind_eq_some_iff.mp e
  refine ⟨B, E, xs, Xs, s, E1, fr, c, e1, fun v H' ⟨F, A, fr'⟩ => ?_⟩
  simp only at e
  split at e
  · cases e
    obtain ⟨r, _⟩ := fr'.look0 (d := .bool b) rfl
    cases r
    obtain ⟨A', fr2⟩ := fr'.pop
    exact ⟨b, rfl, q H' ⟨F, A', fr2⟩⟩
  · cases e
theorem xt_cmp {op : CmpOp} {r : R2} {p : P2} (ho : OpR X (compareOp op) r) (hp : BinOk X.K r p) (ha : EX X a m1 f) (hb : EX X b m2 g) (hm : behindInMarks op b = false) : TX X (.Compare a [op] [b] pos) (m1 || m2) (isB (pBin p m2 f g)) := by
  refine pt_imp (pt_cmpR ho ha hb hm) fun σ H Q h => ?_
  exact rd_bin hp (rt_isB h)
end
noncomputable def bnd : Int := 2 ^ 20000
noncomputable def okMul (i j : Int) : Bool := decide (-(2 ^ 64) < i ∧ i < 2 ^ 64) || decide (-(2 ^ 64) < j ∧ j < 2 ^ 64) || decide (-bnd < i ∧ i < bnd ∧ -bnd < j ∧ j < bnd)
noncomputable def okDiv (j : Int) : Bool := decide (0 < j ∧ j < 2 ^ 200)
noncomputable def iOp (C : Int → Int → Bool) (g : Int → Int → PyData) : PyData → PyData → Option PyData
  | .int i, .int j => if C i j then some (g i j) else none
  | _, _ => none
noncomputable abbrev rIC (C : Int → Int → Bool) (g : Int → Int → V) : R2 := rI (fun i j => C i j = true) g
theorem iOp_ok {K : PySem.W.Frag} {C : Int → Int → Bool} {g : Int → Int → PyData} {g' : Int → Int → V} (hg : ∀ i j, ofD (g i j) = some (g' i j)) : BinOk K (rIC C g') (sc2 (iOp C g)) := by
  refine sc2_ok fun d1 d2 d v1 v2 H Q e r1 r2 => ?_
  unfold iOp at e
  split at e
  · split at e
    · cases e
      cases r1
      cases r2
      rename_i hC
      exact ⟨_, hg _ _, fun q => ⟨_, _, rfl, rfl, hC, q⟩⟩
    · cases e
  · cases e
section
variable {X : Cx}
theorem intBits_big {i : Int} (h1 : -bnd < i) (h2 : i < bnd) : Builtin.Int.intBits i ≤ 2 ^ 20 := by
  unfold bnd at h1 h2
  have h : i.natAbs < 2 ^ 20000 := by
    have e : ((2 ^ 20000 : Nat) : Int) = 2 ^ 20000 := Int.natCast_pow 2 20000
    generalize (2 ^ 20000 : Int) = z at h1 h2 e
    generalize (2 ^ 20000 : Nat) = y at e ⊢
    omega
  unfold Builtin.Int.intBits
  split
  · exact Nat.zero_le _
  · rename_i hz
    have hz' : i ≠ 0 := by simpa using hz
    have : i.natAbs.log2 < 20000 := (Nat.log2_lt (by omega)).mpr h
    omega
theorem okMul_ok {i j : Int} (h : okMul i j = true) : PySem.IntMulOk i j := by
  unfold okMul at h
  simp only [Bool.or_eq_true, decide_eq_true_eq] at h
  rcases h with (h | h) | h
  · exact CMul.ok (.inl h)
  · exact CMul.ok (.inr h)
  · exact PySem.IntMulOk.of_bits (intBits_big h.1 h.2.1) (intBits_big h.2.2.1 h.2.2.2)
end
end PL
namespace PL
open PySem L2 Nh PyProof.Rows
noncomputable abbrev SgT := L2.St
section
variable {X : Cx}
theorem OpR.or {f : Value → Value → Sem Value} {r r' : R2} (h : OpR X f r) (h' : OpR X f r') : OpR X f (fun x y H Q => r x y H Q ∨ r' x y H Q) := by
  intro pins s σ H x y v u Q I rx ry q
  rcases q with q | q
  · exact h pins s σ H x y v u Q I rx ry q
  · exact h' pins s σ H x y v u Q I rx ry q
theorem OpR.imp {f : Value → Value → Sem Value} {r r' : R2} (h : OpR X f r) (k : ∀ x y H Q, r' x y H Q → r x y H Q) : OpR X f r' := fun pins s σ H x y v u Q I rx ry q => h pins s σ H x y v u Q I rx ry (k _ _ _ _ q)
noncomputable def rCatS (K : PySem.W.Frag) : R2 := fun x y H Q => ∃ l b xs zs, x = .ref l ∧ y = .ref b ∧ SqL K H l xs ∧ SqL K H b zs ∧ xs.length + zs.length ≤ sizeLine ∧ ∀ p, H p = none → Q (.ref p) (upd H p (.lst (xs ++ zs)))
theorem op_catS : OpR X (binaryOp .Add) (rCatS X.K) := by
  intro pins s σ H x y v u Q I rx ry h
  obtain ⟨l, b, xs, zs, rfl, rfl, hH, hB, hz, q⟩ := h
  cases rx
  cases ry
  obtain ⟨its, r, p1, z1⟩ := I.list hH
  obtain ⟨its2, r2, p2, z2⟩ := I.list hB
  obtain ⟨⟨cls, dd, data, sl⟩, ho, hc, n, hd⟩ := p1.isList
  obtain ⟨⟨cls2, dd2, data2, sl2⟩, ho2, hc2, n2, hd2⟩ := p2.isList
  simp only at hc hd hc2 hd2
  subst hc hd hc2 hd2
  have l1 := r.length
  have l2 := r2.length
  refine concat_meets ⟨_, ho, rfl⟩ ⟨_, ho2, rfl⟩ noFill_list_add seq_list_add PySem.F.slot_list_add PySem.F.entry_list_add (PySem.F.args_list_add_2 _ _) (list_addW l b its.toArray its2.toArray n n2 dd dd2 sl sl2 (by simp only [List.size_toArray]; omega)) ⟨ho, ho2, ?_⟩
  have ea : its.toArray ++ its2.toArray = (its ++ its2).toArray := by simp
  rw [ea]
  exact ⟨.ref _, _, I.lnew (t' := s.toks) (r.append r2) (by rw [List.length_append]; omega), rfl, q _ I.fresh⟩
noncomputable def rRepS (K : PySem.W.Frag) : R2 := fun x y H Q => ∃ l k xs, x = .ref l ∧ y = .int k ∧ SqL K H l xs ∧ -(2 ^ 63) ≤ k ∧ k < 2 ^ 63 ∧ xs.length * k.toNat ≤ sizeLine ∧
  ∀ p, H p = none → Q (.ref p) (upd H p (.lst (List.replicate k.toNat xs).flatten))
theorem op_repS : OpR X (binaryOp .Mult) (rRepS X.K) := by
  intro pins s σ H x y v u Q I rx ry h
  obtain ⟨l, k, xs, rfl, rfl, hH, h1, h2, hz, q⟩ := h
  cases rx
  obtain ⟨t, rfl⟩ := ry
  obtain ⟨its, r, p1, z1⟩ := I.list hH
  obtain ⟨⟨cls, d, data, sl⟩, ho, hcl, n, hd⟩ := p1.isList
  simp only at hcl hd
  subst hcl hd
  have l1 := r.length
  have hsz : its.toArray.size * k.toNat ≤ 2 ^ 24 := by rw [List.size_toArray, ← l1]; exact hz
  refine wpAny_binaryOp_repeat_ref (T := "list") (U := "int") (by decide) ⟨_, ho, rfl⟩ (fun s' => typeIs_int s' k t) noFill_list_mul F.fills_int_mul F.slot_int_rmul repeat_list F.slot_int_index.lookup
    (call_meets F.slot_int_rmul (typeIs_int s k t) F.entry_int_rmul (F.args_int_rmul_2 _ _) (lm_int_rmul_list_any k t l its.toArray n d sl)
      ⟨ho, rfl, ⟨_, ho, rfl⟩, call_meets F.slot_list_mul ⟨_, ho, rfl⟩ F.entry_list_mul (F.args_list_mul_2 _ _)
        (lm_list_mul_any l its.toArray n d sl k t (by simp [Builtin.List.listFitsIndex]; omega) (by omega) (by simp [Builtin.List.listTooLong, sizeLine]; omega))
        ⟨ho, ?_⟩⟩)
  rw [listMul_foldl_if]
  exact ⟨.ref _, _, I.lnew (t' := s.toks) (r.rep k.toNat) (by rw [len_rep, Nat.mul_comm]; exact hz), rfl, q _ I.fresh⟩
end
noncomputable def pAdd : P2 := fun E s1 s2 => (look E s1).bind fun d1 => (look E s2).bind fun d2 => match d1, d2 with
  | .int i, .int j => some (.sh (.int (i + j)), E)
  | .str a, .str b => if a.length + b.length ≤ 1000000 then some (.sh (.str (a ++ b)), E) else none
  | .list a, .list b => if decide (a.length + b.length ≤ 1000000) && (!hot E s1 || flatA a) && (!hot E s2 || flatA b) then some (.ow (a ++ b), E) else none
  | _, _ => none
theorem small {n : Nat} (h : n ≤ 1000000) : n < sizeLine := Nat.lt_of_le_of_lt h (by rw [sizeLine_eq]; decide)
theorem smallE {n : Nat} (h : n ≤ 1000000) : n ≤ sizeLine := Nat.le_of_lt (small h)
section
variable {K : PySem.W.Frag} {B F : Hp} {A : List Addr} {σ : SgT} {H : Hp} {E : List Sl} {xs : List V} {Xs : List Sl} {v : V} {s : Sl} {ds : List PyData}
theorem FrF.items {k : Nat} (h : FrF K B F A σ H E xs Xs) (e : Xs[k]? = some s) (q : PL.look E s = some (.list ds)) (c : (!hot E s || flatA ds) = true) : ∃ a vs, xs[k]? = some (.ref a) ∧ SqL K H a vs ∧ RpA K F vs ds := by
  obtain ⟨v, ev, r, f⟩ := h.look e q
  cases hh : hot E s with
  | false =>
    obtain ⟨a, vs, rfl, h1, h2⟩ := f hh
    exact ⟨a, vs, ev, h1, h2⟩
  | true =>
    rw [hh] at c
    cases r with
    | lst h1 h2 => exact ⟨_, _, ev, h1, h.coldA h2 (by simpa using c)⟩
theorem FrF.res2l {v1 v2 : V} {s1 s2 : Sl} {vs : List V} (h : FrF K B F A σ H E (v2 :: v1 :: xs) (s2 :: s1 :: Xs)) (r : RpA K F vs ds) {p : Addr} (hp : H p = none) : Frm K B σ (upd H p (.lst vs)) E (.ref p :: xs) (.ow ds :: Xs) := by
  obtain ⟨A1, h⟩ := h.pop
  obtain ⟨A2, h⟩ := h.pop
  exact ⟨F, _, h.newl r hp⟩
end
noncomputable abbrev rAddU (K : PySem.W.Frag) : R2 := fun x y H Q => (∃ i j, x = .int i ∧ y = .int j ∧ Q (.int (i + j)) H) ∨ (∃ i j, x = .str i ∧ y = .str j ∧ i.length + j.length ≤ sizeLine ∧ Q (.str (i ++ j)) H) ∨ rCatS K x y H Q
theorem op_addU {X : Cx} : OpR X (binaryOp .Add) (rAddU X.K) := OpR.or op_add (OpR.or op_add_str op_catS)
theorem pAdd_ok {K : PySem.W.Frag} : BinOk K (rAddU K) pAdd := by
  intro B F A σ H E xs Xs v1 v2 s1 s2 res E' Q fr e q
  obtain ⟨d1, e1, e⟩ := Option.bind_eq_some_iff.mp e
  obtain ⟨d2, e2, e⟩ := Option.bind_eq_some_iff.mp e
  have r1 := (fr.look1 e1).1
  have r2 := (fr.look0 e2).1
  split at e
  · cases e; cases r1; cases r2
    exact .inl ⟨_, _, rfl, rfl, q _ _ (fr.res2 ⟨rfl, _, rfl, .int _⟩)⟩
  · split at e
    · rename_i hl
      cases e; cases r1; cases r2
      exact .inr (.inl ⟨_, _, rfl, rfl, smallE hl, q _ _ (fr.res2 ⟨rfl, _, rfl, .str _⟩)⟩)
    · cases e
  · split at e
    · rename_i hc
      cases e
      simp only [Bool.and_eq_true, decide_eq_true_eq] at hc
      obtain ⟨a1, u1, x1, q1, i1⟩ := fr.items (k := 1) rfl e1 hc.1.2
      obtain ⟨a2, u2, x2, q2, i2⟩ := fr.items (k := 0) rfl e2 hc.2
      cases x1; cases x2
      have l1 := i1.len
      have l2 := i2.len
      exact .inr (.inr ⟨_, _, _, _, rfl, rfl, q1, q2, smallE (by omega), fun p hp => q _ _ (fr.res2l (i1.append i2) hp)⟩)
    · cases e
  · cases e
noncomputable def pSub : P2 := sc2 (iOp (fun _ _ => true) fun i j => .int (i - j))
noncomputable def pFdiv : P2 := sc2 (iOp (fun _ j => okDiv j) fun i j => .int (i / j))
noncomputable def pMod : P2 := sc2 (iOp (fun _ j => decide (0 < j)) fun i j => .int (i % j))
noncomputable def pPow : P2 := sc2 (iOp (fun i j => decide (0 ≤ j ∧ j ≤ 1000000 ∧ -(2 ^ 64) < i ∧ i < 2 ^ 64)) fun i j => .int (i ^ j.toNat))
section
variable {X : Cx}
theorem op_subC : OpR X (binaryOp .Sub) (rIC (fun _ _ => true) fun i j => .int (i - j)) := OpR.imp op_sub fun x y H Q ⟨i, j, a, b, _, q⟩ => ⟨i, j, a, b, q⟩
theorem op_fdivC : OpR X (binaryOp .FloorDiv) (rIC (fun _ j => okDiv j) fun i j => .int (i / j)) := opI fun i j _ _ _ _ _ hc q => by
  obtain ⟨h1, h2⟩ := of_decide_eq_true hc
  have h3 : j.natAbs.log2 < 9000 := by
    have : j.natAbs < 2 ^ 200 := by omega
    have := (Nat.log2_lt (n := j.natAbs) (k := 200) (by omega)).mpr this
    omega
  exact floordiv_int (by omega) (by rw [Int.fdiv_eq_ediv_of_nonneg i (by omega)]; exact q) (.inl (PyProof.noPylong_of_log2 h3))
theorem op_modC : OpR X (binaryOp .Mod) (rIC (fun _ j => decide (0 < j)) fun i j => .int (i % j)) := OpR.imp op_mod fun x y H Q ⟨i, j, a, b, c, q⟩ => ⟨i, j, a, b, of_decide_eq_true c, q⟩
theorem cpow_of {i j : Int} (c : 0 ≤ j ∧ j ≤ 1000000 ∧ -(2 ^ 64) < i ∧ i < 2 ^ 64) : CPow i j := ⟨c.1, c.2.1, by omega⟩
theorem op_powC : OpR X (binaryOp .Pow) (rIC (fun i j => decide (0 ≤ j ∧ j ≤ 1000000 ∧ -(2 ^ 64) < i ∧ i < 2 ^ 64)) fun i j => .int (i ^ j.toNat)) := OpR.imp op_pow fun x y H Q ⟨i, j, a, b, c, q⟩ => ⟨i, j, a, b, cpow_of (of_decide_eq_true c), q⟩
end
noncomputable def pMul : P2 := fun E s1 s2 => (look E s1).bind fun d1 => (look E s2).bind fun d2 => match d1, d2 with
  | .int i, .int j => if okMul i j then some (.sh (.int (i * j)), E) else none
  | .list a, .int k => if decide (a.length * k.toNat ≤ 1000000 ∧ -1000000 ≤ k ∧ k ≤ 1000000) && (!hot E s1 || flatA a) then some (.ow (List.replicate k.toNat a).flatten, E) else none
  | _, _ => none
noncomputable abbrev rMulU (K : PySem.W.Frag) : R2 := fun x y H Q => rIC okMul (fun i j => .int (i * j)) x y H Q ∨ rRepS K x y H Q
theorem op_mulU {X : Cx} : OpR X (binaryOp .Mult) (rMulU X.K) := OpR.or (opI fun _ _ _ _ _ _ _ hc q => mul_int q (okMul_ok hc)) op_repS
theorem pMul_ok {K : PySem.W.Frag} : BinOk K (rMulU K) pMul := by
  intro B F A σ H E xs Xs v1 v2 s1 s2 res E' Q fr e q
  obtain ⟨d1, e1, e⟩ := Option.bind_eq_some_iff.mp e
  obtain ⟨d2, e2, e⟩ := Option.bind_eq_some_iff.mp e
  have r1 := (fr.look1 e1).1
  have r2 := (fr.look0 e2).1
  split at e
  · split at e
    · rename_i hm
      cases e; cases r1; cases r2
      exact .inl ⟨_, _, rfl, rfl, hm, q _ _ (fr.res2 ⟨rfl, _, rfl, .int _⟩)⟩
    · cases e
  · split at e
    · rename_i hc
      cases e
      simp only [Bool.and_eq_true, decide_eq_true_eq] at hc
      obtain ⟨a1, u1, x1, q1, i1⟩ := fr.items (k := 1) rfl e1 hc.2
      cases x1; cases r2
      have l1 := i1.len
      exact .inr ⟨_, _, _, rfl, rfl, q1, by omega, by omega, smallE (by rw [l1]; exact hc.1.1), fun p hp => q _ _ (fr.res2l (i1.rep _) hp)⟩
    · cases e
  · cases e
section
variable {X : Cx} {a b : Expr} {m1 m2 : Bool} {f g : PEv} {pos : Pos}
theorem xe_add (ha : EX X a m1 f) (hb : EX X b m2 g) : EX X (.BinOp a .Add b pos) (m1 || m2) (pBin pAdd m2 f g) := xe_op op_addU pAdd_ok ha hb
theorem xe_sub (ha : EX X a m1 f) (hb : EX X b m2 g) : EX X (.BinOp a .Sub b pos) (m1 || m2) (pBin pSub m2 f g) := xe_op op_subC (iOp_ok fun _ _ => rfl) ha hb
theorem xe_mul (ha : EX X a m1 f) (hb : EX X b m2 g) : EX X (.BinOp a .Mult b pos) (m1 || m2) (pBin pMul m2 f g) := xe_op op_mulU pMul_ok ha hb
theorem xe_fdiv (ha : EX X a m1 f) (hb : EX X b m2 g) : EX X (.BinOp a .FloorDiv b pos) (m1 || m2) (pBin pFdiv m2 f g) := xe_op op_fdivC (iOp_ok fun _ _ => rfl) ha hb
theorem xe_mod (ha : EX X a m1 f) (hb : EX X b m2 g) : EX X (.BinOp a .Mod b pos) (m1 || m2) (pBin pMod m2 f g) := xe_op op_modC (iOp_ok fun _ _ => rfl) ha hb
theorem xe_pow (ha : EX X a m1 f) (hb : EX X b m2 g) : EX X (.BinOp a .Pow b pos) (m1 || m2) (pBin pPow m2 f g) := xe_op op_powC (iOp_ok fun _ _ => rfl) ha hb
end
noncomputable def UnOk (K : PySem.W.Frag) (r : V → Hp → VK → Prop) (op : PyData → Option PyData) : Prop := ∀ (d1 d : PyData) (v1 : V) (H : Hp) (Q : VK), op d1 = some d → Rp K H v1 d1 → ∃ v, ofD d = some v ∧ (Q v H → r v1 H Q)
noncomputable def pUn (op : PyData → Option PyData) (f : PEv) : PEv := fun E => (f E).bind fun a => (look a.2 a.1).bind fun d1 => (op d1).map fun d => (.sh d, a.2)
theorem rd_un {K : PySem.W.Frag} {r : V → Hp → VK → Prop} {op : PyData → Option PyData} (hp : UnOk K r op) {m : Bool} {f : PEv} {σ : SgT} {H : Hp} {Q : VK} (h : rd K m (pUn op f) σ H Q) : rd K m f σ H (fun x H1 => r x H1 Q) := by
  obtain ⟨B, E, xs, Xs, res, E', fr, c, e, q⟩ := h
  obtain ⟨⟨s1, E1⟩, e1, e⟩ := Option.bind_eq_some_iff.mp e
  obtain ⟨d1, e2, e⟩ := Option.bind_eq_some_iff.mp e
  obtain ⟨d, e3, e⟩ := Option.map_eq_some_iff.mp e
  cases e
  refine ⟨B, E, xs, Xs, s1, E1, fr, c, e1, fun v1 H1 ⟨F, A, fr1⟩ => ?_⟩
  obtain ⟨v, hv, k⟩ := hp d1 d v1 H1 Q e3 (fr1.look0 e2).1
  obtain ⟨A', fr2⟩ := fr1.pop
  exact k (q v H1 ⟨F, A', fr2.push ⟨rfl, v, rfl, ofD_rp hv⟩⟩)
noncomputable def dNeg : PyData → Option PyData
  | .int i => some (.int (-i))
  | _ => none
noncomputable def dNot : PyData → Option PyData
  | .bool b => some (.bool (!b))
  | _ => none
section
variable {X : Cx} {a b c : Expr} {m1 m2 m3 : Bool} {f g h : PEv} {pos : Pos}
theorem xe_neg (ha : EX X a m1 f) : EX X (.UnaryOp .USub a pos) m1 (pUn dNeg f) := pe_imp (pe_un un_neg ha) fun σ H Q h => rd_un (r := rU fun i => .int (-i)) (fun d1 d v1 H Q e r => by
  cases d1 <;> simp [dNeg] at e
  cases e; cases r
  exact ⟨_, rfl, fun q => ⟨_, rfl, q⟩⟩) h
end
noncomputable def dEq (d1 d2 : PyData) : Option Bool := match d1, d2 with
  | .int i, .int j => some (decide (i = j))
  | .str a, .str b => some (decide (a = b))
  | .bool a, .bool b => some (decide (a = b))
  | .none, .none => some true
  | .none, .str _ => some false
  | .str _, .none => some false
  | d1, d2 => if SeqAt.shaped d1 && SeqAt.shaped d2 then some (PyData.eqv d1 d2) else none
noncomputable def pEq : P2 := sc2 fun d1 d2 => (dEq d1 d2).map fun b => .bool b
noncomputable def pNe : P2 := sc2 fun d1 d2 => (dEq d1 d2).map fun b => .bool (!b)
noncomputable abbrev rEqU (K : PySem.W.Frag) : R2 := fun x y H Q => rEq x y H Q ∨ rEqD K x y H Q
noncomputable abbrev rNeU (K : PySem.W.Frag) : R2 := fun x y H Q => rNe x y H Q ∨ rNeD K x y H Q
theorem dEq_ok {K : PySem.W.Frag} {H : Hp} {v1 v2 : V} {d1 d2 : PyData} {b : Bool} (e : dEq d1 d2 = some b) (r1 : Rp K H v1 d1) (r2 : Rp K H v2 d2) :
    (scal v1 v2 = true ∧ decide (v1 = v2) = b) ∨ (DOf K H v1 d1 ∧ DOf K H v2 d2 ∧ SeqAt.shaped d1 = true ∧ SeqAt.shaped d2 = true ∧ PyData.eqv d1 d2 = b) := by
  unfold dEq at e
  split at e
  · cases e; cases r1; cases r2; exact .inl ⟨rfl, by simp⟩
  · cases e; cases r1; cases r2; exact .inl ⟨rfl, by simp⟩
  · cases e; cases r1; cases r2; exact .inl ⟨rfl, by simp⟩
  · cases e; cases r1; cases r2; exact .inl ⟨rfl, rfl⟩
  · cases e; cases r1; cases r2; exact .inl ⟨rfl, rfl⟩
  · cases e; cases r1; cases r2; exact .inl ⟨rfl, rfl⟩
  · split at e
    · rename_i hs
      cases e
      simp only [Bool.and_eq_true] at hs
      exact .inr ⟨r1.dof hs.1, r2.dof hs.2, hs.1, hs.2, rfl⟩
    · cases e
theorem pEq_ok {K : PySem.W.Frag} : BinOk K (rEqU K) pEq := sc2_ok fun d1 d2 d v1 v2 H Q e r1 r2 => by
  obtain ⟨b, e', rfl⟩ := Option.map_eq_some_iff.mp e
  refine ⟨_, rfl, fun q => ?_⟩
  rcases dEq_ok e' r1 r2 with ⟨a, rfl⟩ | ⟨a1, a2, a3, a4, rfl⟩
  · exact .inl ⟨a, q⟩
  · exact .inr ⟨_, _, a1, a2, a3, a4, q⟩
theorem pNe_ok {K : PySem.W.Frag} : BinOk K (rNeU K) pNe := sc2_ok fun d1 d2 d v1 v2 H Q e r1 r2 => by
  obtain ⟨b, e', rfl⟩ := Option.map_eq_some_iff.mp e
  refine ⟨_, rfl, fun q => ?_⟩
  rcases dEq_ok e' r1 r2 with ⟨a, rfl⟩ | ⟨a1, a2, a3, a4, rfl⟩
  · exact .inl ⟨a, q⟩
  · exact .inr ⟨_, _, a1, a2, a3, a4, q⟩
noncomputable def iCmp (g : Int → Int → Bool) : PyData → PyData → Option PyData := iOp (fun _ _ => true) fun i j => .bool (g i j)
noncomputable def ScOk (K : PySem.W.Frag) (r : R2) (op : PyData → PyData → Option PyData) : Prop := ∀ (d1 d2 d : PyData) (v1 v2 : V) (H : Hp) (Q : VK), op d1 d2 = some d → Rp K H v1 d1 → Rp K H v2 d2 → ∃ v, ofD d = some v ∧ (Q v H → r v1 v2 H Q)
noncomputable def dIsN (neg : Bool) : PyData → PyData → Option PyData
  | d, .none => some (.bool (match d with | .none => !neg | _ => neg))
  | _, _ => none
theorem isN_ok {K : PySem.W.Frag} : ScOk K (fun x y H Q => y = .non ∧ Q (.bl (decide (x = .non))) H) (dIsN false) := fun d1 d2 d v1 v2 H Q e r1 r2 => by
  unfold dIsN at e
  split at e
  · cases e; cases r2
    refine ⟨_, rfl, fun q => ⟨rfl, ?_⟩⟩
    cases r1 <;> exact q
  · cases e
theorem notN_ok {K : PySem.W.Frag} : ScOk K (fun x y H Q => y = .non ∧ Q (.bl (!decide (x = .non))) H) (dIsN true) := fun d1 d2 d v1 v2 H Q e r1 r2 => by
  unfold dIsN at e
  split at e
  · cases e; cases r2
    refine ⟨_, rfl, fun q => ⟨rfl, ?_⟩⟩
    cases r1 <;> exact q
  · cases e
noncomputable def pChain (op op' : PyData → PyData → Option PyData) (m2 m3 : Bool) (f g h : PEv) : PEv := fun E => (f E).bind fun a => if (m2 || m3) && a.1.isBr then none else (g a.2).bind fun b => if m3 && b.1.isBr then none else
  (look b.2 a.1).bind fun d1 => (look b.2 b.1).bind fun d2 => match op d1 d2 with
    | some (.bool true) => (h b.2).bind fun c => (look c.2 b.1).bind fun d2 => (look c.2 c.1).bind fun d3 => (op' d2 d3).map fun d => (.sh d, c.2)
    | some (.bool false) => some (.sh (.bool false), b.2)
    | _ => none
section
variable {X : Cx} {a b c : Expr} {m1 m2 m3 : Bool} {f g h : PEv} {pos : Pos}
theorem xe_eq (hu : X.A.units + 64 < cLine) (ha : EX X a m1 f) (hb : EX X b m2 g) : EX X (.Compare a [.Eq] [b] pos) (m1 || m2) (pBin pEq m2 f g) := xe_cmp (OpR.or op_eq (op_eqD hu)) pEq_ok ha hb (nomark _)
theorem xe_ne (hu : X.A.units + 64 < cLine) (ha : EX X a m1 f) (hb : EX X b m2 g) : EX X (.Compare a [.NotEq] [b] pos) (m1 || m2) (pBin pNe m2 f g) := xe_cmp (OpR.or op_ne (op_neD hu)) pNe_ok ha hb (nomark _)
theorem xe_isN (ha : EX X a m1 f) (hb : EX X b m2 g) : EX X (.Compare a [.Is] [b] pos) (m1 || m2) (pBin (sc2 (dIsN false)) m2 f g) := xe_cmp op_isN (sc2_ok isN_ok) ha hb (nomark _)
theorem xt_eq (hu : X.A.units + 64 < cLine) (ha : EX X a m1 f) (hb : EX X b m2 g) : TX X (.Compare a [.Eq] [b] pos) (m1 || m2) (isB (pBin pEq m2 f g)) := xt_cmp (OpR.or op_eq (op_eqD hu)) pEq_ok ha hb (nomark _)
theorem xt_ne (hu : X.A.units + 64 < cLine) (ha : EX X a m1 f) (hb : EX X b m2 g) : TX X (.Compare a [.NotEq] [b] pos) (m1 || m2) (isB (pBin pNe m2 f g)) := xt_cmp (OpR.or op_ne (op_neD hu)) pNe_ok ha hb (nomark _)
theorem xt_isN (ha : EX X a m1 f) (hb : EX X b m2 g) : TX X (.Compare a [.Is] [b] pos) (m1 || m2) (isB (pBin (sc2 (dIsN false)) m2 f g)) := xt_cmp op_isN (sc2_ok isN_ok) ha hb (nomark _)
theorem xt_notN (ha : EX X a m1 f) (hb : EX X b m2 g) : TX X (.Compare a [.IsNot] [b] pos) (m1 || m2) (isB (pBin (sc2 (dIsN true)) m2 f g)) := xt_cmp op_notN (sc2_ok notN_ok) ha hb (nomark _)
theorem rd_chain {K : PySem.W.Frag} {r r' : R2} {op op' : PyData → PyData → Option PyData} (k : ScOk K r op) (k' : ScOk K r' op') {σ : SgT} {H : Hp} {Q : VK} (z : rd K (m1 || (m2 || m3)) (pChain op op' m2 m3 f g h) σ H Q) : tChain r r' (rd K m1 f) (rd K m2 g) (rd K m3 h) σ H Q := by
  obtain ⟨B, E, xs, Xs, res, E', fr, cl, e, q⟩ := z
  obtain ⟨⟨s1, E1⟩, e1, e⟩ := Option.bind_eq_some_iff.mp e
  by_cases hb : ((m2 || m3) && s1.isBr) = true
  · rw [if_pos hb] at e; cases e
  rw [if_neg hb] at e
  obtain ⟨⟨s2, E2⟩, e2, e⟩ := Option.bind_eq_some_iff.mp e
  by_cases hb2 : (m3 && s2.isBr) = true
  · rw [if_pos hb2] at e; cases e
  rw [if_neg hb2] at e
  obtain ⟨d1, l1, e⟩ := Option.bind_eq_some_iff.mp e
  obtain ⟨d2, l2, e⟩ := Option.bind_eq_some_iff.mp e
  have n1 : (m2 || m3) = true → s1.isBr = false := fun z => by
    cases hs : s1.isBr with
    | false => rfl
    | true => exact absurd (by rw [z, hs]; rfl) hb
  have n2 : m3 = true → s2.isBr = false := fun z => by
    cases hs : s2.isBr with
    | false => rfl
    | true => exact absurd (by rw [z, hs]; rfl) hb2
  refine ⟨B, E, xs, Xs, s1, E1, fr, fun z => cl (by simp [z]), e1, fun v1 H1 fr1 => ?_⟩
  refine ⟨B, E1, v1 :: xs, s1 :: Xs, s2, E2, fr1, fun z => Calm.cons (cl (by simp [z])) (n1 (by simp [z])), e2, fun v2 H2 ⟨F, A, fr2⟩ => ?_⟩
  cases ho : op d1 d2 with
  | none => rw [ho] at e; cases e
  | some d =>
    rw [ho] at e
    obtain ⟨v, hv, kk⟩ := k d1 d2 d v1 v2 H2 (fun z H3 => ∃ k, z = .bl k ∧ (if k = true then rd K m3 h σ H3 fun w' H4 => r' v2 w' H4 Q else Q (.bl false) H3)) ho (fr2.look1 l1).1 (fr2.look0 l2).1
    cases d with
    | bool t =>
      cases hv
      refine kk ⟨t, rfl, ?_⟩
      cases t with
      | true =>
        rw [if_pos rfl]
        obtain ⟨⟨s3, E3⟩, e3, e⟩ := Option.bind_eq_some_iff.mp e
        obtain ⟨d2', l2', e⟩ := Option.bind_eq_some_iff.mp e
        obtain ⟨d3, l3, e⟩ := Option.bind_eq_some_iff.mp e
        obtain ⟨d, ho', e⟩ := Option.map_eq_some_iff.mp e
        cases e
        refine ⟨B, E2, v2 :: v1 :: xs, s2 :: s1 :: Xs, s3, E3, ⟨F, A, fr2⟩, fun z => Calm.cons (Calm.cons (cl (by simp [z])) (n1 (by simp [z]))) (n2 z), e3, fun v3 H3 ⟨F3, A3, fr3⟩ => ?_⟩
        obtain ⟨v, hv, kk⟩ := k' d2' d3 d v2 v3 H3 Q ho' (fr3.look1 l2').1 (fr3.look0 l3).1
        obtain ⟨A4, fr4⟩ := fr3.pop
        exact kk (q v H3 (fr4.res2 ⟨rfl, v, rfl, ofD_rp hv⟩))
      | false =>
        rw [if_neg (by decide)]
        cases e
        exact q _ _ (fr2.res2 ⟨rfl, _, rfl, .bl _⟩)
    | none => cases e
    | int i => cases e
    | str x => cases e
    | list xs => cases e
    | tuple xs => cases e
    | dict kvs => cases e
end
end PL
namespace PL
open PySem L2 Nh
noncomputable def pAndV (f g : PEv) : PEv := fun E => (f E).bind fun a => match a.1 with
  | .sh (.bool true) => g a.2
  | .sh (.bool false) => some (.sh (.bool false), a.2)
  | _ => none
noncomputable def pOrV (f g : PEv) : PEv := fun E => (f E).bind fun a => match a.1 with
  | .sh (.bool true) => some (.sh (.bool true), a.2)
  | .sh (.bool false) => g a.2
  | _ => none
noncomputable def tAndP (f g : PTv) : PTv := fun E => (f E).bind fun a => if a.1 then g a.2 else some (false, a.2)
noncomputable def tOrP (f g : PTv) : PTv := fun E => (f E).bind fun a => if a.1 then some (true, a.2) else g a.2
noncomputable def tNotP (f : PTv) : PTv := fun E => (f E).map fun a => (!a.1, a.2)
noncomputable def pIf (c : PTv) (f g : PEv) : PEv := fun E => (c E).bind fun a => if a.1 then f a.2 else g a.2
noncomputable def dTru : PyData → Option Bool
  | .none => some false
  | .bool b => some b
  | .int i => some (i != 0)
  | .str x => if x.length ≤ 1000000 then some ((x.length : Int) != 0) else none
  | .list xs => some (!xs.isEmpty)
  | .tuple xs => some (!xs.isEmpty)
  | .dict _ => none
noncomputable def pTru (f : PEv) : PTv := fun E => (f E).bind fun a => match a.1 with
  | .al i => match a.2[i]? with
    | some (.od kvs) => some (!kvs.isEmpty, a.2)
    | some s => (s.val.bind dTru).map fun b => (b, a.2)
    | none => none
  | s => (s.val.bind dTru).map fun b => (b, a.2)
section
variable {X : Cx} {a b c : Expr} {rest : List Expr} {m1 m2 m3 : Bool} {f g h : PEv} {t u : PTv} {pos : Pos} {K : PySem.W.Frag}
theorem xe_one {op} (h : EX X a m1 f) : EX X (.BoolOp op [a] pos) m1 f := pe_one h
theorem xe_and (ha : EX X a m1 f) (hb : EX X (.BoolOp .And (b :: rest) pos) m2 g) : EX X (.BoolOp .And (a :: b :: rest) pos) (m1 || m2) (pAndV f g) := by
  refine pe_imp (pe_and ha hb) fun σ H Q z => ?_
  obtain ⟨B, E, xs, Xs, res, E', fr, cl, e, q⟩ := z
  obtain ⟨⟨s1, E1⟩, e1, e⟩ := Option.bind_eq_some_iff.mp e
  refine ⟨B, E, xs, Xs, s1, E1, fr, fun z => cl (by simp [z]), e1, fun v1 H1 ⟨F, A, fr1⟩ => ?_⟩
  simp only at e
  split at e
  · obtain ⟨r, _⟩ := fr1.look0 (d := .bool true) rfl
    cases r
    obtain ⟨A', fr2⟩ := fr1.pop
    exact ⟨true, rfl, (if_pos rfl).mpr ⟨B, E1, xs, Xs, res, E', ⟨F, A', fr2⟩, fun z => cl (by simp [z]), e, q⟩⟩
  · cases e
    obtain ⟨r, _⟩ := fr1.look0 (d := .bool false) rfl
    cases r
    exact ⟨false, rfl, (if_neg (by decide)).mpr (q _ _ ⟨F, A, fr1⟩)⟩
  · cases e
theorem xw_and1 (ha : TX X a m1 t) : WX X (.BoolOp .And [a] pos) m1 t := pw_and1 ha
theorem xw_or1 (ha : TX X a m1 t) : WX X (.BoolOp .Or [a] pos) m1 t := pw_or1 ha
theorem xw_and (ha : TX X a m1 t) (hb : WX X (.BoolOp .And (b :: rest) pos) m2 u) : WX X (.BoolOp .And (a :: b :: rest) pos) (m1 || m2) (tAndP t u) := by
  refine pw_imp (pw_and ha hb) fun σ H Q z => ?_
  obtain ⟨B, E, xs, Xs, res, E', fr, cl, e, q⟩ := z
  obtain ⟨⟨b1, E1⟩, e1, e⟩ := Option.bind_eq_some_iff.mp e
  refine ⟨B, E, xs, Xs, b1, E1, fr, fun z => cl (by simp [z]), e1, fun H1 fr1 => ?_⟩
  cases b1 with
  | true => exact (if_pos rfl).mpr ⟨B, E1, xs, Xs, res, E', fr1, fun z => cl (by simp [z]), e, q⟩
  | false => cases e; exact (if_neg (by decide)).mpr (q _ fr1)
theorem xw_or (ha : TX X a m1 t) (hb : WX X (.BoolOp .Or (b :: rest) pos) m2 u) : WX X (.BoolOp .Or (a :: b :: rest) pos) (m1 || m2) (tOrP t u) := by
  refine pw_imp (pw_or ha hb) fun σ H Q z => ?_
  obtain ⟨B, E, xs, Xs, res, E', fr, cl, e, q⟩ := z
  obtain ⟨⟨b1, E1⟩, e1, e⟩ := Option.bind_eq_some_iff.mp e
  refine ⟨B, E, xs, Xs, b1, E1, fr, fun z => cl (by simp [z]), e1, fun H1 fr1 => ?_⟩
  cases b1 with
  | true => cases e; exact (if_pos rfl).mpr (q _ fr1)
  | false => exact (if_neg (by decide)).mpr ⟨B, E1, xs, Xs, res, E', fr1, fun z => cl (by simp [z]), e, q⟩
theorem xt_w (h : WX X a m1 t) : TX X a m1 t := PW.pt h
theorem xt_not (ha : TX X a m1 t) : TX X (.UnaryOp .Not a pos) m1 (tNotP t) := by
  refine pt_imp (pt_not ha) fun σ H Q z => ?_
  obtain ⟨B, E, xs, Xs, res, E', fr, cl, e, q⟩ := z
  obtain ⟨⟨b1, E1⟩, e1, e⟩ := Option.map_eq_some_iff.mp e
  cases e
  exact ⟨B, E, xs, Xs, b1, E1, fr, cl, e1, fun H1 fr1 => q _ fr1⟩
theorem tru_rp {H : Hp} {v : V} {d : PyData} {b : Bool} (r : Rp K H v d) (e : dTru d = some b) : TruV K v H b := by
  cases r with
  | non => cases e; rfl
  | bl b => cases e; rfl
  | int i => cases e; rfl
  | str x =>
    simp only [dTru] at e
    split at e
    · rename_i hl
      cases e
      exact ⟨smallE hl, rfl⟩
    · cases e
  | lst h r => cases e; exact .inl ⟨_, h, by cases r <;> rfl⟩
  | tup h r => cases e; exact .inr (.inl ⟨_, h, by cases r <;> rfl⟩)
  | dct h r => cases e
theorem xt_tru (ha : EX X a m1 f) (he : ∀ whole, isTrue a X.env whole = (do let v ← whole; standAt a.pos; holding [v] (truthy v)) := by exact fun _ => rfl) : TX X a m1 (pTru f) := by
  refine pt_imp (pt_truth ha he) fun σ H Q z => ?_
  obtain ⟨B, E, xs, Xs, res, E', fr, cl, e, q⟩ := z
  obtain ⟨⟨s, E1⟩, e1, e⟩ := Option.bind_eq_some_iff.mp e
  refine ⟨B, E, xs, Xs, s, E1, fr, cl, e1, fun v1 H1 ⟨F, A, fr1⟩ => ?_⟩
  have key : ∀ d, look E1 s = some d → (dTru d).map (fun b => (b, E1)) = some (res, E') → ∃ k, TruV X.K v1 H1 k ∧ Q k H1 := fun d l e => by
    obtain ⟨b, e', z⟩ := Option.map_eq_some_iff.mp e
    cases z
    obtain ⟨A', fr2⟩ := fr1.pop
    exact ⟨_, tru_rp (fr1.look0 l).1 e', q _ ⟨F, A', fr2⟩⟩
  have kv : (s.val.bind dTru).map (fun b => (b, E1)) = some (res, E') → (∀ i, s ≠ .al i) → ∃ k, TruV X.K v1 H1 k ∧ Q k H1 := fun e na => by
    obtain ⟨b, e', z⟩ := Option.map_eq_some_iff.mp e
    obtain ⟨d, e1, e2⟩ := Option.bind_eq_some_iff.mp e'
    refine key d ?_ (by rw [e2]; exact congrArg some z)
    cases s <;> first | exact e1 | exact absurd rfl (na _)
  simp only at e
  split at e
  · rename_i i
    split at e
    · rename_i kvs ei
      cases e
      obtain ⟨v', A1, ev, rfl, w, ew, hw⟩ := fr1.ext (k := 0) rfl
      cases ev; cases ew
      obtain ⟨o, A1, eo, l, us, A2, rfl, _, hl, r⟩ := fr1.var ei
      rw [hw] at eo
      cases eo
      obtain ⟨A', fr2⟩ := fr1.pop
      exact ⟨_, .inr (.inr ⟨_, hl, by cases us <;> cases kvs <;> first | rfl | exact False.elim r⟩), q _ ⟨F, A', fr2⟩⟩
    · rename_i s' _ ei
      obtain ⟨b, e', z⟩ := Option.map_eq_some_iff.mp e
      obtain ⟨d, e1, e2⟩ := Option.bind_eq_some_iff.mp e'
      exact key d (by simp [look, ei, e1]) (by rw [e2]; exact congrArg some z)
    · cases e
  · rename_i na
    exact kv e na
end
theorem xt_chain {X : Cx} {a b c : Expr} {m1 m2 m3 : Bool} {f g h : PEv} {pos : Pos} {o1 o2 : CmpOp} {r r' : R2} {op op' : PyData → PyData → Option PyData} (ho : OpR X (compareOp o1) r) (ho' : OpR X (compareOp o2) r') (k : ScOk X.K r op) (k' : ScOk X.K r' op') (ha : EX X a m1 f) (hb : EX X b m2 g) (hc : EX X c m3 h)
    (hm : lastMarks [o1, o2] [b, c] = false := by with_unfolding_all rfl) : TX X (.Compare a [o1, o2] [b, c] pos) (m1 || (m2 || m3)) (isB (pChain op op' m2 m3 f g h)) := pt_imp (pt_chain ho ho' ha hb hc hm) fun _ _ _ z => rd_chain k k' (rt_isB z)
noncomputable def aNil : PAv := fun E => some ([], E)
noncomputable def aCons (m2 : Bool) (f : PEv) (g : PAv) : PAv := fun E => (f E).bind fun a => if m2 && a.1.isBr then none else (g a.2).map fun b => (a.1 :: b.1, b.2)
noncomputable def dNil : PDv := fun E => some ([], E)
noncomputable def dCons (f : PEv) (g : PDv) : PDv := fun E => (f E).bind fun a => (frz a.2 a.1).bind fun b => (g b.2).map fun c => (b.1 :: c.1, c.2)
noncomputable def pTup (f : PDv) : PEv := fun E => (f E).bind fun a => if a.1.length ≤ 1000000 then some (.sh (.tuple a.1), a.2) else none
noncomputable def pLst (f : PDv) : PEv := fun E => (f E).bind fun a => if a.1.length ≤ 1000000 then some (.ow a.1, a.2) else none
section
variable {X : Cx} {e : Expr} {es : List Expr} {m1 m2 : Bool} {f : PEv} {g : PAv} {d : PDv} {pos : Pos} {K : PySem.W.Frag}
theorem xa_nil : AX X [] false aNil := by
  refine pa_imp pa_nil fun σ H Q z => ?_
  obtain ⟨B, E, xs, Xs, res, E', fr, cl, e, q⟩ := z
  cases e
  exact q [] H rfl fr
theorem xa_cons (ha : EX X e m1 f) (hr : AX X es m2 g) (hs : starEach (e :: es) X.env = (false, eval e X.env) :: starEach es X.env := by rfl) : AX X (e :: es) (m1 || m2) (aCons m2 f g) := by
  refine pa_imp (pa_cons ha hr hs) fun σ H Q z => ?_
  obtain ⟨B, E, xs, Xs, res, E', fr, cl, e, q⟩ := z
  obtain ⟨⟨s, E1⟩, e1, e⟩ := Option.bind_eq_some_iff.mp e
  by_cases hb : (m2 && s.isBr) = true
  · rw [if_pos hb] at e; cases e
  rw [if_neg hb] at e
  obtain ⟨⟨rs, E2⟩, e2, e⟩ := Option.map_eq_some_iff.mp e
  cases e
  refine ⟨B, E, xs, Xs, s, E1, fr, fun z => cl (by simp [z]), e1, fun v1 H1 fr1 => ?_⟩
  refine ⟨B, E1, v1 :: xs, s :: Xs, rs, E2, fr1, fun z => Calm.cons (cl (by simp [z])) ?_, e2, fun vs H2 hl fr2 => ?_⟩
  · cases hs : s.isBr with
    | false => rfl
    | true => exact absurd (by simp [z, hs]) hb
  · exact q (v1 :: vs) H2 (by simp [hl]) (by simpa using fr2)
theorem xd_nil : DX X [] false dNil := by
  refine pa_imp pa_nil fun σ H Q z => ?_
  obtain ⟨B, E, xs, Xs, res, E', fr, cl, e, q⟩ := z
  cases e
  exact q [] H rfl fr
theorem xd_cons (ha : EX X e m1 f) (hr : DX X es m2 d) (hs : starEach (e :: es) X.env = (false, eval e X.env) :: starEach es X.env := by rfl) : DX X (e :: es) (m1 || m2) (dCons f d) := by
  refine pa_imp (pa_cons ha hr hs) fun σ H Q z => ?_
  obtain ⟨B, E, xs, Xs, res, E', fr, cl, e, q⟩ := z
  obtain ⟨⟨s, E1⟩, e1, e⟩ := Option.bind_eq_some_iff.mp e
  obtain ⟨⟨d1, E2⟩, e2, e⟩ := Option.bind_eq_some_iff.mp e
  obtain ⟨⟨rs, E3⟩, e3, e⟩ := Option.map_eq_some_iff.mp e
  cases e
  refine ⟨B, E, xs, Xs, s, E1, fr, fun z => cl (by simp [z]), e1, fun v1 H1 ⟨F, A, fr1⟩ => ?_⟩
  obtain ⟨F2, A2, fr2⟩ := fr1.frz0 e2
  refine ⟨B, E2, v1 :: xs, .sh d1 :: Xs, rs, E3, ⟨F2, A2, fr2⟩, fun z => Calm.cons (cl (by simp [z])) rfl, e3, fun vs H2 hl fr2 => ?_⟩
  exact q (v1 :: vs) H2 (by simp [hl]) (by simpa using fr2)
theorem FrF.shsR {B F : Hp} {σ : SgT} {H : Hp} {E : List Sl} {xs : List V} {Xs : List Sl} : ∀ {us : List V} {es : List PyData} {A : List Addr}, us.length = es.length → FrF K B F A σ H E (us ++ xs) (es.map .sh ++ Xs) → RpA K F us es ∧ ∃ A', FrF K B F A' σ H E xs Xs
  | [], [], A, _, h => ⟨.nil, A, h⟩
  | u :: us, e :: es, A, hl, h => by
    obtain ⟨v, A1, ev, rfl, w, ew, r⟩ := h.ext (k := 0) rfl
    cases ev; cases ew
    obtain ⟨A', h'⟩ := FrF.pop (xs := us ++ xs) (Xs := es.map .sh ++ Xs) h
    obtain ⟨r', q⟩ := FrF.shsR (by simpa using hl) h'
    exact ⟨.cons r r', q⟩
  | [], _ :: _, _, e, _ => by cases e
  | _ :: _, [], _, e, _ => by cases e
theorem FrF.shs {B F : Hp} {σ : SgT} {H : Hp} {E : List Sl} {xs : List V} {Xs : List Sl} {us : List V} {es : List PyData} {A : List Addr} (hl : us.length = es.length) (h : FrF K B F A σ H E (us.reverse ++ xs) (es.reverse.map .sh ++ Xs)) : RpA K F us es ∧ ∃ A', FrF K B F A' σ H E xs Xs := by
  obtain ⟨r, q⟩ := FrF.shsR (by simpa using hl) h
  have := r.rev
  rw [List.reverse_reverse, List.reverse_reverse] at this
  exact ⟨this, q⟩
theorem xe_tup {x1} (h : DX X es m1 d) : EX X (.Tuple es x1 pos) m1 (pTup d) := by
  refine pe_imp (pe_tup h) fun σ H Q z => ?_
  obtain ⟨B, E, xs, Xs, res, E', fr, cl, e, q⟩ := z
  obtain ⟨⟨ds, E1⟩, e1, e⟩ := Option.bind_eq_some_iff.mp e
  simp only at e
  split at e
  · rename_i hl
    cases e
    refine ⟨B, E, xs, Xs, ds, _, fr, cl, e1, fun vs H1 hv ⟨F, A, fr1⟩ => ?_⟩
    obtain ⟨r, A', fr2⟩ := fr1.shs hv
    exact ⟨smallE (by omega), fun p hp => q _ _ ⟨_, _, fr2.newt r hp⟩⟩
  · cases e
theorem xe_lst (h : DX X es m1 d) : EX X (.List es pos) m1 (pLst d) := by
  refine pe_imp (pe_lst h) fun σ H Q z => ?_
  obtain ⟨B, E, xs, Xs, res, E', fr, cl, e, q⟩ := z
  obtain ⟨⟨ds, E1⟩, e1, e⟩ := Option.bind_eq_some_iff.mp e
  simp only at e
  split at e
  · rename_i hl
    cases e
    refine ⟨B, E, xs, Xs, ds, _, fr, cl, e1, fun vs H1 hv ⟨F, A, fr1⟩ => ?_⟩
    obtain ⟨r, A', fr2⟩ := fr1.shs hv
    exact ⟨smallE (by omega), fun p hp => q _ _ ⟨_, _, fr2.newl r hp⟩⟩
  · cases e
end
noncomputable def cutD (ds : List PyData) (lo hi : Option Int) : List PyData := (ds.drop (HT.sIx ds.length 0 lo)).take (HT.sIx ds.length ds.length hi - HT.sIx ds.length 0 lo)
noncomputable def pIx : P2 := fun E s1 s2 => (look E s1).bind fun d1 => (look E s2).bind fun d2 => match d2 with
  | .int i => match d1 with
    | .list ds => (atI ds i).map fun d => (if hot E s1 && !flat d then .br d else .sh d, E)
    | .tuple ds => (atI ds i).map fun d => (if hot E s1 && !flat d then .br d else .sh d, E)
    | .str z => if z.length ≤ 1000000 then (atI z.cps.toList i).map fun c => (.sh (.str ⟨#[c]⟩), E) else none
    | _ => none
  | _ => none
section
variable {K : PySem.W.Frag} {H : Hp}
theorem RpA.atI {vs : List V} {ds : List PyData} {i : Int} {d : PyData} (h : RpA K H vs ds) (e : L2.atI ds i = some d) : ∃ v, L2.atI vs i = some v ∧ Rp K H v d := by
  unfold L2.atI at e ⊢
  obtain ⟨j, e1, e2⟩ := Option.bind_eq_some_iff.mp e
  obtain ⟨v, ev, r⟩ := h.get e2
  exact ⟨v, by rw [h.len, e1]; exact ev, r⟩
theorem FrF.item {B F : Hp} {A : List Addr} {σ : SgT} {E : List Sl} {xs : List V} {Xs : List Sl} {v1 v2 v : V} {s1 s2 : Sl} {d : PyData} (fr : FrF K B F A σ H E (v2 :: v1 :: xs) (s2 :: s1 :: Xs)) (r : Rp K H v d) (f : hot E s1 = false → Rp K F v d) :
    Frm K B σ H E (v :: xs) ((if hot E s1 && !flat d then .br d else .sh d) :: Xs) := by
  by_cases hc : (hot E s1 && !flat d) = true
  · rw [if_pos hc]
    exact fr.res2 ⟨rfl, v, rfl, r⟩
  · rw [if_neg hc]
    refine fr.res2 ⟨rfl, v, rfl, ?_⟩
    cases hh : hot E s1 with
    | false => exact f hh
    | true =>
      rw [hh] at hc
      exact fr.cold r (by simpa using hc)
theorem pIx_ok : BinOk K (rIx K) pIx := by
  intro B F A σ H E xs Xs v1 v2 s1 s2 res E' Q fr e q
  obtain ⟨d1, e1, e⟩ := Option.bind_eq_some_iff.mp e
  obtain ⟨d2, e2, e⟩ := Option.bind_eq_some_iff.mp e
  obtain ⟨r1, f1⟩ := fr.look1 e1
  have r2 := (fr.look0 e2).1
  split at e
  · cases r2
    split at e
    · obtain ⟨d, ed, e⟩ := Option.map_eq_some_iff.mp e
      cases e
      cases hh : hot E s1 with
      | false =>
        obtain ⟨a, vs, rfl, h1, h2⟩ := f1 hh
        obtain ⟨v, ev, rv⟩ := h2.atI ed
        have z := fr.item (rv.same fr.fh) fun _ => rv
        rw [hh] at z q
        exact .inl ⟨_, _, _, v, rfl, rfl, h1, ev, q _ _ z⟩
      | true =>
        cases r1 with
        | lst h1 h2 =>
          obtain ⟨v, ev, rv⟩ := h2.atI ed
          have z := fr.item rv fun h => absurd (hh.symm.trans h) (by decide)
          rw [hh] at z q
          exact .inl ⟨_, _, _, v, rfl, rfl, h1, ev, q _ _ z⟩
    · obtain ⟨d, ed, e⟩ := Option.map_eq_some_iff.mp e
      cases e
      cases hh : hot E s1 with
      | false =>
        have h0 : Rp K F v1 _ := f1 hh
        cases h0 with
        | tup h1 h2 =>
          obtain ⟨v, ev, rv⟩ := h2.atI ed
          have z := fr.item (rv.same fr.fh) fun _ => rv
          rw [hh] at z q
          exact .inr (.inl ⟨_, _, _, v, rfl, rfl, fr.fh.tup h1, ev, q _ _ z⟩)
      | true =>
        cases r1 with
        | tup h1 h2 =>
          obtain ⟨v, ev, rv⟩ := h2.atI ed
          have z := fr.item rv fun h => absurd (hh.symm.trans h) (by decide)
          rw [hh] at z q
          exact .inr (.inl ⟨_, _, _, v, rfl, rfl, h1, ev, q _ _ z⟩)
    · split at e
      · rename_i hl
        obtain ⟨c, ec, e⟩ := Option.map_eq_some_iff.mp e
        cases e; cases r1
        exact .inr (.inr ⟨_, _, c, rfl, rfl, smallE hl, ec, q _ _ (fr.res2 ⟨rfl, _, rfl, .str _⟩)⟩)
      · cases e
    · cases e
  · cases e
end
end PL
namespace L2
open PySem PySem.Spec PyProof.Rows
section
variable {κ : Type} [DecidableEq κ]
noncomputable def valV (kvs : List (κ × V)) (k : κ) : Option V := (kvs.find? fun kv => decide (kv.1 = k)).map (·.2)
noncomputable def putK (kvs : List (κ × V)) (k : κ) (v : V) : List (κ × V) :=
  if (kvs.any fun kv => decide (kv.1 = k)) = true then kvs.map (fun kv => if kv.1 = k then (kv.1, v) else kv) else kvs ++ [(k, v)]
noncomputable def dropK (kvs : List (κ × V)) (k : κ) : List (κ × V) := kvs.filter fun kv => decide (kv.1 ≠ k)
theorem valV_pos {p : κ × V} {r : List (κ × V)} {k : κ} (e : p.1 = k) : valV (p :: r) k = some p.2 := by simp [valV, List.find?_cons, e]
theorem valV_neg {p : κ × V} {r : List (κ × V)} {k : κ} (e : ¬ p.1 = k) : valV (p :: r) k = valV r k := by simp [valV, List.find?_cons, e]
theorem valV_any (k : κ) : ∀ kvs : List (κ × V), (kvs.any fun kv => decide (kv.1 = k)) = (valV kvs k).isSome
  | [] => rfl
  | p :: r => by
    rw [List.any_cons]
    by_cases e : p.1 = k
    · simp only [valV_pos e, decide_eq_true e, Bool.true_or, Option.isSome_some]
    · rw [valV_neg e, decide_eq_false e, Bool.false_or]; exact valV_any k r
theorem length_putK (kvs : List (κ × V)) (k : κ) (v : V) : (putK kvs k v).length ≤ kvs.length + 1 := by
  unfold putK
  split
  · rw [List.length_map]; omega
  · rw [List.length_append, List.length_cons, List.length_nil]; omega
theorem putK_new {kvs : List (κ × V)} {k : κ} (v : V) (h : valV kvs k = none) : putK kvs k v = kvs ++ [(k, v)] := by
  unfold putK
  rw [valV_any, h]
  exact if_neg (by decide)
theorem RelO.isSome_eq {o : Option V} {u : Option Value} (r : RelO o u) : o.isSome = u.isSome := by
  cases o with
  | none => cases u with
    | none => rfl
    | some _ => exact (show False from r).elim
  | some _ => cases u with
    | none => exact (show False from r).elim
    | some _ => rfl
theorem RelO.getD {o : Option V} {u : Option Value} {d : V} {d' : Value} (r : RelO o u) (rd : RelV d d') : RelV (o.getD d) (u.getD d') := by
  cases o with
  | none => cases u with
    | none => exact rd
    | some _ => exact (show False from r).elim
  | some _ => cases u with
    | none => exact (show False from r).elim
    | some _ => exact r
theorem KV.val {kvs : List (κ × V)} {vs : List (κ × Value)} (r : KV kvs vs) (k : κ) : RelO (valV kvs k) (valueAt vs k) := by
  unfold KV at r
  induction r with
  | nil => exact True.intro
  | @cons p q ps qs h t ih =>
    obtain ⟨h1, h2⟩ := h
    by_cases e : p.1 = k
    · have e' : q.1 = k := h1.symm.trans e
      have b : valueAt (q :: qs) k = some q.2 := by simp [valueAt, List.find?_cons, e']
      rw [valV_pos e, b]; exact h2
    · have e' : ¬ q.1 = k := fun z => e (h1.trans z)
      have b : valueAt (q :: qs) k = valueAt qs k := by simp [valueAt, List.find?_cons, e']
      rw [valV_neg e, b]; exact ih
theorem KV.any {kvs : List (κ × V)} {vs : List (κ × Value)} (r : KV kvs vs) (k : κ) : (kvs.any fun kv => decide (kv.1 = k)) = vs.any fun kv => decide (kv.1 = k) := by
  unfold KV at r
  induction r with
  | nil => rfl
  | cons h t ih => rw [List.any_cons, List.any_cons, ih, h.1]
theorem KV.repl {kvs : List (κ × V)} {vs : List (κ × Value)} (r : KV kvs vs) (k : κ) {y : V} {u : Value} (ry : RelV y u) :
    KV (kvs.map fun kv => if kv.1 = k then (kv.1, y) else kv) (vs.map fun kv => if kv.1 = k then (kv.1, u) else kv) := by
  unfold KV at r ⊢
  induction r with
  | nil => exact .nil
  | @cons p q ps qs h t ih =>
    rw [List.map_cons, List.map_cons]
    refine .cons ?_ ih
    obtain ⟨h1, h2⟩ := h
    by_cases e : p.1 = k
    · rw [if_pos e, if_pos (h1.symm.trans e)]; exact ⟨h1, ry⟩
    · rw [if_neg e, if_neg (fun z => e (h1.trans z))]; exact ⟨h1, h2⟩
theorem KV.put {kvs : List (κ × V)} {vs : List (κ × Value)} (r : KV kvs vs) (k : κ) {y : V} {u : Value} (ry : RelV y u) : KV (putK kvs k y) (stored vs k u) := by
  unfold putK stored
  rw [r.any k]
  by_cases e : (vs.any fun kv => decide (kv.1 = k)) = true
  · rw [if_pos e, if_pos e]; exact r.repl k ry
  · rw [if_neg e, if_neg e]; exact Paired.snoc r ⟨rfl, ry⟩
theorem KV.drop {kvs : List (κ × V)} {vs : List (κ × Value)} (r : KV kvs vs) (k : κ) : KV (dropK kvs k) (without vs k) := by
  unfold KV at r ⊢
  unfold dropK without
  induction r with
  | nil => exact .nil
  | @cons p q ps qs h t ih =>
    obtain ⟨h1, h2⟩ := h
    rw [List.filter_cons, List.filter_cons]
    by_cases e : p.1 = k
    · have a : ¬ decide (p.1 ≠ k) = true := by simp [e]
      have b : ¬ decide (q.1 ≠ k) = true := by simp [h1.symm.trans e]
      rw [if_neg a, if_neg b]; exact ih
    · have e' : ¬ q.1 = k := fun z => e (h1.trans z)
      have a : decide (p.1 ≠ k) = true := by simp [e]
      have b : decide (q.1 ≠ k) = true := by simp [e']
      rw [if_pos a, if_pos b]; exact .cons ⟨h1, h2⟩ ih
theorem KV.keys {kvs : List (κ × V)} {vs : List (κ × Value)} (r : KV kvs vs) : kvs.map (·.1) = vs.map (·.1) := by
  unfold KV at r
  induction r with
  | nil => rfl
  | cons h t ih => rw [List.map_cons, List.map_cons, ih, h.1]
theorem KV.length {kvs : List (κ × V)} {vs : List (κ × Value)} (r : KV kvs vs) : kvs.length = vs.length := Paired.length r
end
theorem kV_is {P : Program} {w : World} {k : Key} {u : Value} (r : RelV (kV k) u) : (mixKind P w).is k u = true := by
  cases k with
  | inl i => obtain ⟨t, e⟩ := (show ∃ t, u = Value.int i t from r); subst e; exact mixKind_int P w i t
  | inr x => obtain ⟨t, e⟩ := (show ∃ t, u = Value.str x t from r); subst e; exact mixKind_str P w x t
theorem items_are {P : Program} {w : World} : ∀ {ks : List Key} {us : List Value}, Vals (ks.map kV) us → ItemsAre (mixKind P w) ks us
  | [], _, r => by rw [List.map_nil] at r; cases r; exact .nil
  | k :: ks, _, r => by
    rw [List.map_cons] at r
    cases r with
    | cons h t => exact .cons (kV_is h) (items_are t)
noncomputable abbrev KT (H : Hp) : List (List Key × V) → List (List Key × Addr × Value) → Prop := Paired fun p q => p.1 = q.1 ∧ H q.2.1 = some (.tup (p.1.map kV)) ∧ RelV p.2 q.2.2
theorem KT.val {H : Hp} {kvs : List (List Key × V)} {xs : List (List Key × Addr × Value)} (r : KT H kvs xs) (k : List Key) : RelO (valV kvs k) ((atKey xs k).map (·.2)) := by
  induction r with
  | nil => exact True.intro
  | @cons p q ps qs h t ih =>
    obtain ⟨h1, _, h2⟩ := h
    by_cases e : p.1 = k
    · have e' : q.1 = k := h1.symm.trans e
      have b : atKey (q :: qs) k = some q.2 := by simp [atKey, List.find?_cons, e']
      rw [valV_pos e, b]; exact h2
    · have e' : ¬ q.1 = k := fun z => e (h1.trans z)
      have b : atKey (q :: qs) k = atKey qs k := by simp [atKey, List.find?_cons, e']
      rw [valV_neg e, b]; exact ih
theorem KT.repl {H : Hp} {kvs : List (List Key × V)} {xs : List (List Key × Addr × Value)} (r : KT H kvs xs) (k : List Key) {y : V} {u : Value} (ry : RelV y u) :
    KT H (kvs.map fun kv => if kv.1 = k then (kv.1, y) else kv) (xs.map (putAt k u)) := by
  induction r with
  | nil => exact .nil
  | @cons p q ps qs h t ih =>
    rw [List.map_cons, List.map_cons]
    refine .cons ?_ ih
    obtain ⟨h1, h2, h3⟩ := h
    unfold putAt
    by_cases e : p.1 = k
    · rw [if_pos e, if_pos (h1.symm.trans e)]; exact ⟨h1, h2, ry⟩
    · rw [if_neg e, if_neg (fun z => e (h1.trans z))]; exact ⟨h1, h2, h3⟩
theorem KT.put {H : Hp} {kvs : List (List Key × V)} {xs : List (List Key × Addr × Value)} (r : KT H kvs xs) (k : List Key) {b : Addr} {y : V} {u : Value} (hb : H b = some (.tup (k.map kV))) (ry : RelV y u) :
    KT H (putK kvs k y) (storedH xs k b u) := by
  have e : (kvs.any fun kv => decide (kv.1 = k)) = (atKey xs k).isSome := by
    rw [valV_any, (r.val k).isSome_eq, Option.isSome_map]
  unfold putK storedH
  rw [e]
  by_cases q : (atKey xs k).isSome = true
  · rw [if_pos q, if_pos q]; exact r.repl k ry
  · rw [if_neg q, if_neg q]; exact Paired.snoc r ⟨rfl, hb, ry⟩
theorem KT.keeps {H H' : Hp} {kvs : List (List Key × V)} {xs : List (List Key × Addr × Value)} (r : KT H kvs xs) (ht : ∀ b ys, H b = some (.tup ys) → H' b = some (.tup ys)) : KT H' kvs xs :=
  Paired.mapP r fun _ _ z => ⟨z.1, ht _ _ z.2.1, z.2.2⟩
section
variable {P : Program} {w : World} {H : Hp} {h : Heap} {a : Addr}
theorem rd_of {u : HO} (ok : HOk P w H h) (e : Rd H a u) : ObjOk P w H h a u := e.ok ok
theorem dk_rd {kvs : List (Key × V)} (ok : HOk P w H h) (e : Rd H a (.dK kvs)) : kvs.length ≤ sizeLine ∧ (a == sysModules) = false ∧ ∃ vs, KV kvs vs ∧ h.DictOf (mixKind P w) a vs :=
  show ObjOk P w H h a (.dK kvs) from rd_of ok e
theorem dk_of {kvs : List (Key × V)} (ok : HOk P w H h) (e : H a = some (.dK kvs)) : kvs.length ≤ sizeLine ∧ (a == sysModules) = false ∧ ∃ vs, KV kvs vs ∧ h.DictOf (mixKind P w) a vs := dk_rd ok (.inl e)
theorem key_of {ks : List Key} (ok : HOk P w H h) (e : H a = some (.tup (ks.map kV))) : (tupleKind (mixKind P w)).is h ks a := by
  obtain ⟨_, its, r, o, h1, h2, n, h3⟩ := (show ObjOk P w H h a (.tup (ks.map kV)) from ok a _ e)
  exact ⟨o, its.toArray, n, h1, h2, h3, by simpa using items_are r⟩
theorem dt_rd {kvs : List (List Key × V)} (ok : HOk P w H h) (e : Rd H a (.dT kvs)) : kvs.length ≤ sizeLine ∧ (a == sysModules) = false ∧
    ∃ xs, KT H kvs xs ∧ h.DictOfH (tupleKind (mixKind P w)) a xs := by
  obtain ⟨z, y, xs, r, o, es, ep, h1, h2, h3, h4, h5⟩ := (show ObjOk P w H h a (.dT kvs) from rd_of ok e)
  refine ⟨z, y, xs, r, o, es, ep, h1, h2, h3, h4, fun x hx => ?_, h5⟩
  have all : ∀ {l : List (List Key × V)} {m : List (List Key × Addr × Value)}, KT H l m → ∀ x ∈ m, (tupleKind (mixKind P w)).is h x.1 x.2.1 := by
    intro l m q
    induction q with
    | nil => intro x hx; exact nomatch hx
    | @cons p q ps qs hq t ih =>
      intro x hx
      rcases List.mem_cons.mp hx with e | hx
      · subst e
        exact key_of ok (by rw [← hq.1]; exact hq.2.1)
      · exact ih x hx
  exact all r x hx
end
noncomputable def DGet (H : Hp) (a : Addr) (y : V) (r : Option V) : Prop :=
  (∃ kvs k, Rd H a (.dK kvs) ∧ y = kV k ∧ r = valV kvs k) ∨ ∃ kvs k b, Rd H a (.dT kvs) ∧ y = .ref b ∧ H b = some (.tup (k.map kV)) ∧ r = valV kvs k
noncomputable def DPut (H : Hp) (a : Addr) (y v : V) (H' : Hp) : Prop :=
  (∃ kvs k, H a = some (.dK kvs) ∧ y = kV k ∧ kvs.length < sizeLine ∧ H' = upd H a (.dK (putK kvs k v))) ∨
  ∃ kvs k b, H a = some (.dT kvs) ∧ y = .ref b ∧ H b = some (.tup (k.map kV)) ∧ kvs.length < sizeLine ∧ H' = upd H a (.dT (putK kvs k v))
theorem DGet.k {H : Hp} {a : Addr} {kvs : List (Key × V)} {k : Key} (e : H a = some (.dK kvs)) : DGet H a (kV k) (valV kvs k) := .inl ⟨kvs, k, .inl e, rfl, rfl⟩
theorem DGet.t {H : Hp} {a b : Addr} {kvs : List (List Key × V)} {k : List Key} (e : H a = some (.dT kvs)) (eb : H b = some (.tup (k.map kV))) : DGet H a (.ref b) (valV kvs k) := .inr ⟨kvs, k, b, .inl e, rfl, eb, rfl⟩
theorem DPut.k {H : Hp} {a : Addr} {kvs : List (Key × V)} {k : Key} {v : V} (e : H a = some (.dK kvs)) (hl : kvs.length < sizeLine) : DPut H a (kV k) v (upd H a (.dK (putK kvs k v))) := .inl ⟨kvs, k, e, rfl, hl, rfl⟩
theorem DPut.t {H : Hp} {a b : Addr} {kvs : List (List Key × V)} {k : List Key} {v : V} (e : H a = some (.dT kvs)) (eb : H b = some (.tup (k.map kV))) (hl : kvs.length < sizeLine) :
    DPut H a (.ref b) v (upd H a (.dT (putK kvs k v))) := .inr ⟨kvs, k, b, e, rfl, eb, hl, rfl⟩
section
variable {X : Cx} {pins : List (Addr × Obj)} {σ : St} {H : Hp} {s : Shared} {a : Addr} {y v : V} {u r : Value} {o : Option V} {A : Around} {E : Value → Shared → Prop}
theorem Inv.big (I : Inv X pins σ H s) : sysModules < s.heap.objs.size := by
  have h : mainGlobals < s.heap.objs.size := (I.mod.glob.keeps I.bk).lt
  exact Nat.lt_trans (by decide) h
theorem d_getItem {Q : Value → Shared → Prop} (hu : A.units + 1 < cLine) (I : Inv X pins σ H s) (g : DGet H a y (some v)) (ry : RelV y u) (h : ∀ w' s', Inv X pins σ H s' → RelV v w' → Q w' s') :
    wpAny (model X.prog X.w) A (getItem (.ref a) u) Q E s := by
  rcases g with ⟨kvs, k, e, ey, l⟩ | ⟨kvs, k, b, e, ey, eb, l⟩
  · subst ey
    obtain ⟨z, hd, vs, rel, dd⟩ := dk_rd I.hok e
    obtain ⟨w', hw, rw'⟩ := RelO.some_of (v := v) (o := valueAt vs k) (by rw [l]; exact rel.val k)
    exact wpAny_getItem_of (kV_is ry) dd.mapOf hw (h w' _ (I.tok _) rw')
  · subst ey
    cases (show u = Value.ref b from ry)
    obtain ⟨z, hd, xs, rel, dd⟩ := dt_rd I.hok e
    obtain ⟨w', hw, rw'⟩ := RelO.some_of (v := v) (o := (atKey xs k).map (·.2)) (by rw [l]; exact rel.val k)
    obtain ⟨p, hp, hp2⟩ := Option.map_eq_some_iff.mp hw
    refine wpAny_getItem_heap (tupleKind_room_in1 hu) (key_of I.hok eb) dd hp ?_
    rw [hp2]
    exact h w' _ (I.tok _) rw'
theorem d_in {Q : Value → Shared → Prop} (hu : A.units + 1 < cLine) (I : Inv X pins σ H s) (g : DGet H a y o) (ry : RelV y u) (h : ∀ s', Inv X pins σ H s' → Q (.bool o.isSome) s') :
    wpAny (model X.prog X.w) A (compareOp .In u (.ref a)) Q E s := by
  rcases g with ⟨kvs, k, e, ey, l⟩ | ⟨kvs, k, b, e, ey, eb, l⟩
  · subst ey
    obtain ⟨z, hd, vs, rel, dd⟩ := dk_rd I.hok e
    refine wpAny_in_of (kV_is ry) hd dd.mapOf ?_
    rw [← (rel.val k).isSome_eq, ← l]
    exact h _ (I.tok _)
  · subst ey
    cases (show u = Value.ref b from ry)
    obtain ⟨z, hd, xs, rel, dd⟩ := dt_rd I.hok e
    refine wpAny_in_heap (tupleKind_room_in1 hu) (key_of I.hok eb) hd dd ?_
    have q := (rel.val k).isSome_eq
    rw [Option.isSome_map] at q
    rw [← q, ← l]
    exact h _ (I.tok _)
theorem d_write {h' : Heap} {t' : Nat} {ob : HO} (I : Inv X pins σ H s) (mu : Mut (H a)) (hs : Heap.SameBut a s.heap h') (he : ∃ q, h'.get? a = some q) (new : ObjOk X.prog X.w (upd H a ob) h' a ob) :
    Inv X pins σ (upd H a ob) { s with heap := h', toks := t' } :=
  I.write (x := a) (e := a) mu (.inl rfl) (fun b q hb z => (hs.2 b hb).trans z) he new
theorem dk_new {P : Program} {w : World} {H' : Hp} {h' : Heap} {kvs : List (Key × V)} {vs : List (Key × Value)} (z : kvs.length ≤ sizeLine) (hd : (a == sysModules) = false) (rel : KV kvs vs) (dd : h'.DictOf (mixKind P w) a vs) :
    ObjOk P w H' h' a (.dK kvs) := ⟨z, hd, vs, rel, dd⟩
end
theorem dict_typeIs {X : Cx} {pins : List (Addr × Obj)} {σ : St} {H : Hp} {s : Shared} {a : Addr} {y : V} {o : Option V} (I : Inv X pins σ H s) (g : DGet H a y o) : s.TypeIs (.ref a) "dict" := by
  rcases g with ⟨kvs, k, e, _, _⟩ | ⟨kvs, k, b, e, _, _, _⟩
  · obtain ⟨_, _, vs, _, dd⟩ := dk_rd I.hok e
    exact dd.typeIs
  · obtain ⟨_, _, xs, _, dd⟩ := dt_rd I.hok e
    exact dd.typeIs
theorem dk_empty {P : Program} {w : World} {H : Hp} (h : Heap) (hb : sysModules < h.objs.size) : ObjOk P w H (h.push { cls := .type "dict", data := .dict #[] }) h.objs.size (.dK []) :=
  ⟨Nat.zero_le _, beq_eq_false_iff_ne.mpr (Ne.symm (Nat.ne_of_lt hb)), [], .nil, Heap.DictOf.new h⟩
noncomputable def tDNewK : TE := fun _ H Q => ∀ p, H p = none → Q (.ref p) (upd H p (.dK []))
section
variable {X : Cx} {pos : Pos}
theorem pe_dnewK : PE X (.Dict [] [] pos) tDNewK := fun pins s σ H Q I h =>
  wpAny_Dict_empty ⟨.ref s.heap.objs.size, _, I.laid (a := s.heap.objs.size) (o := .dK []) (t' := s.toks) (fun _ _ q => Heap.get?_push_of_some _ q) (Nat.le_refl _) (dk_empty s.heap I.big), rfl, h _ (I.hok.fresh (Nat.le_refl _))⟩
end
end L2
namespace PL
open PySem L2 Nh
theorem xe_ix {X : Cx} {a b : Expr} {m1 m2 : Bool} {f g : PEv} {pos : Pos} (ha : EX X a m1 f) (hb : EX X b m2 g) (hs : PlainIx b := by exact fun _ _ => rfl) : EX X (.Subscript a b pos) (m1 || m2) (pBin pIx m2 f g) := pe_imp (pe_ix ix_seq ha hb hs) fun _ _ _ h => rd_bin pIx_ok h
noncomputable abbrev POv := List Sl → Option (Option Int × List Sl)
noncomputable def ro (K : PySem.W.Frag) (m : Bool) (f : POv) : TO := fun σ H Q => ∃ B E xs Xs o E', Frm K B σ H E xs Xs ∧ (m = true → Calm Xs) ∧ f E = some (o, E') ∧ ∀ H', Frm K B σ H' E' xs Xs → Q o H'
noncomputable def OX (X : Cx) (e : Option Expr) (m : Bool) (f : POv) : Prop := PO X e (ro X.K m f)
noncomputable def oNone : POv := fun E => some (none, E)
noncomputable def oSome (f : PEv) : POv := fun E => (f E).bind fun a => match look a.2 a.1 with
  | some (.int i) => some (some i, a.2)
  | _ => none
noncomputable def pSl (m2 : Bool) (f : PEv) (lo hi : POv) : PEv := fun E => (f E).bind fun a => if m2 && a.1.isBr then none else (lo a.2).bind fun b => (hi b.2).bind fun c => match look c.2 a.1 with
  | some (.list ds) => if !hot c.2 a.1 || flatA (cutD ds b.1 c.1) then some (.ow (cutD ds b.1 c.1), c.2) else none
  | _ => none
section
variable {X : Cx} {e : Expr} {lo hi : Option Expr} {m1 m2 m3 : Bool} {f : PEv} {g h : POv} {pos p2 : Pos} {K : PySem.W.Frag}
theorem po_imp {e : Option Expr} {t t' : TO} (h : PO X e t) (k : ∀ σ H Q, t' σ H Q → t σ H Q) : PO X e t' := fun pins s σ H Q I q => h pins s σ H Q I (k σ H Q q)
theorem xo_none : OX X none false oNone := po_imp po_none fun σ H Q z => by
  obtain ⟨B, E, xs, Xs, res, E', fr, cl, e, q⟩ := z
  cases e
  exact q _ fr
theorem xo_some (he : EX X e m1 f) : OX X (some e) m1 (oSome f) := po_imp (po_some he) fun σ H Q z => by
  obtain ⟨B, E, xs, Xs, res, E', fr, cl, e, q⟩ := z
  obtain ⟨⟨s, E1⟩, e1, e⟩ := Option.bind_eq_some_iff.mp e
  refine ⟨B, E, xs, Xs, s, E1, fr, cl, e1, fun v1 H1 ⟨F, A, fr1⟩ => ?_⟩
  simp only at e
  split at e
  · rename_i i l
    cases e
    have r := (fr1.look0 l).1
    cases r
    obtain ⟨A', fr2⟩ := fr1.pop
    exact ⟨i, rfl, q _ ⟨F, A', fr2⟩⟩
  · cases e
theorem RpA.cut {F : Hp} {vs : List V} {ds : List PyData} (h : RpA K F vs ds) (lo hi : Option Int) : RpA K F (cutV vs lo hi) (cutD ds lo hi) := by
  unfold cutV cutD
  rw [h.len]
  exact (h.drop _).take _
end
noncomputable def lookA (E : List Sl) : List Sl → Option (List PyData)
  | [] => some []
  | s :: ss => (look E s).bind fun d => (lookA E ss).map fun ds => d :: ds
theorem lookA_iff {E : List Sl} : ∀ {ss : List Sl} {ds : List PyData}, lookA E ss = some ds ↔ Paired (fun s d => look E s = some d) ss ds
  | [], ds => ⟨fun h => by cases h; exact .nil, fun h => by cases h; rfl⟩
  | s :: ss, ds => by
    constructor
    · intro h
      obtain ⟨d, h1, h⟩ := Option.bind_eq_some_iff.mp h
      obtain ⟨es, h2, h⟩ := Option.map_eq_some_iff.mp h
      cases h
      exact .cons h1 (lookA_iff.mp h2)
    · intro h
      cases h with
      | cons h1 h2 => simp [lookA, h1, lookA_iff.mpr h2]
theorem lookA_rev {E : List Sl} {ss : List Sl} {ds : List PyData} (h : lookA E ss = some ds) : lookA E ss.reverse = some ds.reverse := lookA_iff.mpr (pr_reverse (lookA_iff.mp h))
section
variable {X : Cx} {K : PySem.W.Frag} {B F : Hp} {σ : SgT} {H : Hp} {E : List Sl} {xs : List V} {Xs : List Sl}
theorem FrF.looksR : ∀ {us : List V} {ts : List Sl} {es : List PyData} {A : List Addr}, us.length = ts.length → FrF K B F A σ H E (us ++ xs) (ts ++ Xs) → lookA E ts = some es → RpA K H us es ∧ ∃ A', FrF K B F A' σ H E xs Xs
  | [], [], es, A, _, h, e => by cases e; exact ⟨.nil, A, h⟩
  | u :: us, t :: ts, es, A, hl, h, e => by
    obtain ⟨d, h1, e⟩ := Option.bind_eq_some_iff.mp e
    obtain ⟨es', h2, e⟩ := Option.map_eq_some_iff.mp e
    cases e
    have r := (FrF.look0 (xs := us ++ xs) (Xs := ts ++ Xs) h h1).1
    obtain ⟨A', h'⟩ := FrF.pop (xs := us ++ xs) (Xs := ts ++ Xs) h
    obtain ⟨r', q⟩ := FrF.looksR (by simpa using hl) h' h2
    exact ⟨.cons r r', q⟩
  | [], _ :: _, _, _, e, _, _ => by cases e
  | _ :: _, [], _, _, e, _, _ => by cases e
theorem FrF.looks {us : List V} {ts : List Sl} {es : List PyData} {A : List Addr} (hl : us.length = ts.length) (h : FrF K B F A σ H E (us.reverse ++ xs) (ts.reverse ++ Xs)) (e : lookA E ts = some es) : RpA K H us es ∧ ∃ A', FrF K B F A' σ H E xs Xs := by
  obtain ⟨r, q⟩ := FrF.looksR (by simpa using hl) h (lookA_rev e)
  have := r.rev
  rw [List.reverse_reverse, List.reverse_reverse] at this
  exact ⟨this, q⟩
end
noncomputable def CaOk (K : PySem.W.Frag) (r : List V → Hp → VK → Prop) (op : List PyData → Option PyData) : Prop := ∀ (ds : List PyData) (d : PyData) (vs : List V) (H : Hp) (Q : VK), op ds = some d → RpA K H vs ds → ∃ v, ofD d = some v ∧ (Q v H → r vs H Q)
noncomputable def pCaS (op : List PyData → Option PyData) (g : PAv) : PEv := fun E => (g E).bind fun a => (lookA a.2 a.1).bind fun ds => (op ds).map fun d => (.sh d, a.2)
theorem rd_caS {K : PySem.W.Frag} {r : List V → Hp → VK → Prop} {op : List PyData → Option PyData} (hp : CaOk K r op) {m : Bool} {g : PAv} {σ : SgT} {H : Hp} {Q : VK} (h : rd K m (pCaS op g) σ H Q) : tCB r (ra K m g) σ H Q := by
  obtain ⟨B, E, xs, Xs, res, E', fr, cl, e, q⟩ := h
  obtain ⟨⟨rs, E1⟩, e1, e⟩ := Option.bind_eq_some_iff.mp e
  obtain ⟨ds, e2, e⟩ := Option.bind_eq_some_iff.mp e
  obtain ⟨d, e3, e⟩ := Option.map_eq_some_iff.mp e
  cases e
  refine ⟨B, E, xs, Xs, rs, E1, fr, cl, e1, fun vs H1 hl ⟨F, A, fr1⟩ => ?_⟩
  obtain ⟨r1, A', fr2⟩ := fr1.looks hl e2
  obtain ⟨v, hv, k⟩ := hp ds d vs H1 Q e3 r1
  exact k (q v H1 ⟨F, A', fr2.push ⟨rfl, v, rfl, ofD_rp hv⟩⟩)
noncomputable def dLen : List PyData → Option PyData
  | [.list xs] => some (.int xs.length)
  | [.tuple xs] => some (.int xs.length)
  | [.str z] => if z.length ≤ 1000000 then some (.int z.length) else none
  | _ => none
noncomputable def dAbs : List PyData → Option PyData
  | [.int i] => some (.int (if i < 0 then -i else i))
  | _ => none
noncomputable def dMin : List PyData → Option PyData
  | [.int i, .int j] => some (.int (if j < i then j else i))
  | _ => none
noncomputable def dMax : List PyData → Option PyData
  | [.int i, .int j] => some (.int (if j > i then j else i))
  | _ => none
theorem RpA.one {K : PySem.W.Frag} {H : Hp} {vs : List V} {d : PyData} (h : RpA K H vs [d]) : ∃ v, vs = [v] ∧ Rp K H v d := by
  cases h with
  | cons h t => cases t; exact ⟨_, rfl, h⟩
theorem RpA.two {K : PySem.W.Frag} {H : Hp} {vs : List V} {d e : PyData} (h : RpA K H vs [d, e]) : ∃ v u, vs = [v, u] ∧ Rp K H v d ∧ Rp K H u e := by
  cases h with
  | cons h t =>
    obtain ⟨u, rfl, r⟩ := t.one
    exact ⟨_, _, rfl, h, r⟩
section
variable {X : Cx} {e : Expr} {es : List Expr} {m1 : Bool} {g : PAv} {p pos : Pos} {K : PySem.W.Frag}
noncomputable abbrev rLenU (K : PySem.W.Frag) : List V → Hp → VK → Prop := fun xs H Q => (∃ p ys, xs = [.ref p] ∧ (SqL K H p ys ∨ SqT K H p ys) ∧ Q (.int ys.length) H) ∨ (∃ z, xs = [.str z] ∧ z.length ≤ sizeLine ∧ Q (.int z.length) H)
theorem dLen_ok : CaOk K (rLenU K) dLen := fun ds d vs H Q e r => by
  unfold dLen at e
  split at e
  · cases e
    obtain ⟨v, rfl, r'⟩ := r.one
    cases r' with
    | lst h1 h2 => exact ⟨_, rfl, fun q => .inl ⟨_, _, rfl, .inl h1, by rw [h2.len]; exact q⟩⟩
  · cases e
    obtain ⟨v, rfl, r'⟩ := r.one
    cases r' with
    | tup h1 h2 => exact ⟨_, rfl, fun q => .inl ⟨_, _, rfl, .inr h1, by rw [h2.len]; exact q⟩⟩
  · split at e
    · rename_i hl
      cases e
      obtain ⟨v, rfl, r'⟩ := r.one
      cases r'
      exact ⟨_, rfl, fun q => .inr ⟨_, rfl, smallE hl, q⟩⟩
    · cases e
  · cases e
theorem xe_callS {x : Str} {id : String} {r : List V → Hp → VK → Prop} {op : List PyData → Option PyData} (hp : CaOk X.K r op) (hc : CallR X (.builtin id) r) (hg : Gl X x) (hm : X.mg x = none) (hv : bootBuiltins x = some (.builtin id)) (ha : AX X (e :: es) m1 g) (hn : x ≠ "__name__" := by decide) (hdb : (x == ("__debug__" : Str)) = false := by decide)
    (he : starEach (e :: es) X.env = (false, eval e X.env) :: starEach es X.env := by rfl) (hpl : (backTo pos (starEach es X.env)).any (·.1) = false := by rfl) : EX X (.Call (.Name x p) (e :: es) [] pos) m1 (pCaS op g) :=
  pe_imp (pe_callB hc hg hm hv ha hn hdb he hpl) fun _ _ _ h => rd_caS hp h
theorem xe_len (hg : Gl X "len") (hm : X.mg "len" = none) (ha : AX X [e] m1 g) (he : starEach [e] X.env = [(false, eval e X.env)] := by rfl) : EX X (.Call (.Name "len" p) [e] [] pos) m1 (pCaS dLen g) := xe_callS dLen_ok (CallR.or call_len_seq call_len_str) hg hm PySem.boot_len ha (by decide) (by decide) he rfl
theorem xe_abs (hg : Gl X "abs") (hm : X.mg "abs" = none) (ha : AX X [e] m1 g) (he : starEach [e] X.env = [(false, eval e X.env)] := by rfl) : EX X (.Call (.Name "abs" p) [e] [] pos) m1 (pCaS dAbs g) := xe_callS (fun ds d vs H Q e r => by
  unfold dAbs at e
  split at e
  · cases e
    obtain ⟨v, rfl, r'⟩ := r.one
    cases r'
    exact ⟨_, rfl, fun q => ⟨_, rfl, q⟩⟩
  · cases e) call_abs hg hm PyProof.Rows.boot_abs ha (by decide) (by decide) he rfl
theorem xe_min {e2 : Expr} (hc : X.calm = true) (hg : Gl X "min") (hm : X.mg "min" = none) (ha : AX X [e, e2] m1 g) (he : starEach [e, e2] X.env = (false, eval e X.env) :: starEach [e2] X.env := by rfl) (hpl : (backTo pos (starEach [e2] X.env)).any (·.1) = false := by rfl) : EX X (.Call (.Name "min" p) [e, e2] [] pos) m1 (pCaS dMin g) := xe_callS (fun ds d vs H Q e r => by
  unfold dMin at e
  split at e
  · cases e
    obtain ⟨v, u, rfl, r', r2⟩ := r.two
    cases r'; cases r2
    exact ⟨_, rfl, fun q => ⟨_, _, rfl, q⟩⟩
  · cases e) (call_min2 hc) hg hm PyProof.Rows.boot_min ha (by decide) (by decide) he hpl
end
noncomputable def pLstOf (g : PEv) : PEv := fun E => (g E).bind fun a => match look a.2 a.1 with
  | some (.list ds) => if !hot a.2 a.1 || flatA ds then some (.ow ds, a.2) else none
  | some (.tuple ds) => if !hot a.2 a.1 || flatA ds then some (.ow ds, a.2) else none
  | _ => none
section
variable {X : Cx} {e : Expr} {m1 : Bool} {f : PEv} {p pos : Pos} {K : PySem.W.Frag}
theorem xe_list (hg : Gl X "list") (hm : X.mg "list" = none) (ha : EX X e m1 f) (he : starEach [e] X.env = [(false, eval e X.env)] := by rfl) : EX X (.Call (.Name "list" p) [e] [] pos) m1 (pLstOf f) := by
  refine pe_imp (pe_callTy call_list_of hg hm PyProof.Rows.boot_list (pa_cons ha pa_nil he) (by decide) (by decide) he rfl) fun σ H Q z => ?_
  obtain ⟨B, E, xs, Xs, res, E', fr, cl, e, q⟩ := z
  obtain ⟨⟨s, E1⟩, e1, e⟩ := Option.bind_eq_some_iff.mp e
  refine ⟨B, E, xs, Xs, s, E1, fr, cl, e1, fun v1 H1 ⟨F, A, fr1⟩ => ?_⟩
  obtain ⟨A', fr2⟩ := fr1.pop
  simp only at e
  split at e
  · rename_i ds ld
    split at e
    · rename_i hc
      cases e
      obtain ⟨a, vs, ev, h1, h2⟩ := fr1.items (k := 0) rfl ld hc
      cases ev
      exact ⟨a, vs, rfl, .inl h1, fun l hl => q _ _ ⟨F, _, fr2.newl h2 hl⟩⟩
    · cases e
  · rename_i ds ld
    split at e
    · rename_i hc
      cases e
      obtain ⟨r, f0⟩ := fr1.look0 ld
      cases hh : hot E' s with
      | false =>
        have h0 : Rp X.K F v1 _ := f0 hh
        cases h0 with
        | tup h1 h2 => exact ⟨_, _, rfl, .inr (fr1.fh.tup h1), fun l hl => q _ _ ⟨F, _, fr2.newl h2 hl⟩⟩
      | true =>
        rw [hh] at hc
        cases r with
        | tup h1 h2 => exact ⟨_, _, rfl, .inr h1, fun l hl => q _ _ ⟨F, _, fr2.newl (fr1.coldA h2 (by simpa using hc)) hl⟩⟩
    · cases e
  · cases e
end
inductive Ty where
  | non | bool | int | str | list | tuple | dict
noncomputable def Ty.name : Ty → String
  | .non => "NoneType"
  | .bool => "bool"
  | .int => "int"
  | .str => "str"
  | .list => "list"
  | .tuple => "tuple"
  | .dict => "dict"
noncomputable def Ty.is : Ty → Ty → Bool
  | .non, .non => true
  | .bool, .bool => true
  | .bool, .int => true
  | .int, .int => true
  | .str, .str => true
  | .list, .list => true
  | .tuple, .tuple => true
  | .dict, .dict => true
  | _, _ => false
noncomputable def tyD : PyData → Ty
  | .none => .non
  | .bool _ => .bool
  | .int _ => .int
  | .str _ => .str
  | .list _ => .list
  | .tuple _ => .tuple
  | .dict _ => .dict
theorem kit_is (K : PySem.W.Frag) (t n : Ty) : PySem.W.kitOne K (.type t.name) (.type n.name) = some (t.is n) := by cases t <;> cases n <;> rfl
noncomputable def dIsi (n : Ty) (d : PyData) : Option PyData := some (.bool ((tyD d).is n))
section
variable {X : Cx} {e : Expr} {m1 : Bool} {f : PEv} {p p2 pos : Pos}
theorem isinst_rp {pins : List (Addr × Obj)} {s : Shared} {σ : SgT} {H : Hp} {x : V} {u : Value} {d : PyData} {n : Ty} {A : Around} {E : Value → Shared → Prop} {Q : Value → Shared → Prop} (I : Inv X pins σ H s) (rx : RelV x u) (rp : Rp X.K H x d) (h : ∀ tk, Q (.bool ((tyD d).is n)) { s with toks := tk }) :
    wpAny (model X.prog X.w) A (call (.builtin "isinstance") [u, .type n.name]) Q E s := by
  have e := kit_is X.K (tyD d) n
  cases rp with
  | non => exact isinst_ok I rx .non e h
  | bl b => exact isinst_ok I rx (.bl b) e h
  | int i => exact isinst_ok I rx (.int i) e h
  | str y => exact isinst_ok I rx (.str y) e h
  | lst h1 _ =>
    cases rx
    obtain ⟨its, rv, ⟨o, n', e1, c, _, d⟩, _⟩ := I.list h1
    exact PySem.W.kia_one PySem.W.kitx_list I.kIn ⟨_, e1, c⟩ e (fun z => nomatch z) h
  | tup h1 _ =>
    cases rx
    obtain ⟨its, rv, ⟨o, e1, c, n', d⟩, _⟩ := I.tuple h1
    exact PySem.W.kia_one PySem.W.kitx_tuple I.kIn ⟨_, e1, c⟩ e (fun z => nomatch z) h
  | dct h1 _ =>
    cases rx
    obtain ⟨_, _, vs, _, ob, es, ep, e1, c, _⟩ := dk_rd I.hok h1
    exact PySem.W.kia_one PySem.W.kitx_dict I.kIn ⟨_, e1, c.1⟩ e (fun z => nomatch z) h
theorem call_isiD (n : Ty) : CallR X (.builtin "isinstance") (fun xs H Q => ∃ x d, xs = [x, .ty n.name] ∧ Rp X.K H x d ∧ Q (.bl ((tyD d).is n)) H) := by
  intro pins s σ H xs us Q I r h
  obtain ⟨x, d, rfl, rp, q⟩ := h
  obtain ⟨u, w', rfl, ru, rw'⟩ := r.two
  cases (show w' = Value.type n.name from rw')
  exact isinst_rp I ru rp fun tk => ⟨.bl _, H, I.tok _, rfl, q⟩
theorem xe_isi (n : Ty) (hg : Gl X "isinstance") (hm : X.mg "isinstance" = none) (ha : EX X e m1 f) {x : Str} (hgx : Gl X x) (hmx : X.mg x = none) (hbx : bootBuiltins x = some (.type n.name)) (hnx : x ≠ "__name__" := by decide) (hdx : (x == ("__debug__" : Str)) = false := by decide)
    (he : starEach [e, .Name x p2] X.env = (false, eval e X.env) :: starEach [.Name x p2] X.env := by rfl) (he2 : starEach [.Name x p2] X.env = [(false, eval (.Name x p2) X.env)] := by rfl) (hpl : (backTo pos (starEach [.Name x p2] X.env)).any (·.1) = false := by rfl) :
    EX X (.Call (.Name "isinstance" p) [e, .Name x p2] [] pos) m1 (pUn (dIsi n) f) := by
  have h2 : PE X (.Name x p2) (tC (.ty n.name)) := pe_bltn (v := .ty n.name) hgx hmx hbx rfl hnx hdx
  refine pe_imp (pe_callB (call_isiD n) hg hm PyProof.Rows.boot_isinstance (pa_cons ha (pa_cons h2 pa_nil he2) he) (by decide) (by decide) he hpl) fun σ H Q z => ?_
  obtain ⟨B, E, xs, Xs, res, E', fr, cl, e, q⟩ := z
  obtain ⟨⟨s, E1⟩, e1, e⟩ := Option.bind_eq_some_iff.mp e
  obtain ⟨d1, e2, e⟩ := Option.bind_eq_some_iff.mp e
  cases e
  refine ⟨B, E, xs, Xs, s, E1, fr, cl, e1, fun v1 H1 ⟨F, A, fr1⟩ => ?_⟩
  obtain ⟨A', fr2⟩ := fr1.pop
  exact ⟨v1, d1, rfl, (fr1.look0 e2).1, q _ _ ⟨F, A', fr2.push ⟨rfl, _, rfl, .bl _⟩⟩⟩
end
end PL
namespace PL
open PySem L2 Nh
noncomputable def ResOk (K : PySem.W.Frag) (H H' : Hp) (v : V) : Sl → Prop
  | .sh d => Rp K (tups H') v d
  | .ow ds => ∃ l vs, v = .ref l ∧ H l = none ∧ H' l = some (.lst vs) ∧ RpA K (tups H') vs ds
  | .tx ps => ∃ t vs A, v = .ref t ∧ tups H' t = some (.tup vs) ∧ A.Nodup ∧ (∀ a ∈ A, H a = none) ∧ PtsOk K (tups H') H' vs ps A
  | .od kvs => ∃ l us A, v = .ref l ∧ (l :: A).Nodup ∧ (∀ a ∈ l :: A, H a = none) ∧ H' l = some (.dK us) ∧ DlOk K (tups H') H' us kvs A
  | .br d => Rp K H' v d
  | _ => False
noncomputable def spP (K : PySem.W.Frag) (c : List PyData → Option Sl) : Sp := fun vs H Q _ => ∃ ds r, c ds = some r ∧ RpA K H vs ds ∧ ∀ v H', Same H H' → ResOk K H H' v r → Q v H'
section
variable {K : PySem.W.Frag} {B F : Hp} {A N : List Addr} {σ : SgT} {H H' : Hp} {E : List Sl} {xs : List V} {Xs : List Sl} {v : V} {s : Sl}
theorem FrF.growN (h : FrF K B F A σ H E xs Xs) (g : Same H H') (hN : ∀ a ∈ N, H a = none ∧ ((∃ us, H' a = some (.lst us)) ∨ ∃ us, H' a = some (.dK us))) : FrF K B (fun b => if b ∈ N then none else if b ∈ A then none else H' b) A σ H' E xs Xs := by
  have h1 := h.grow g
  have nF : ∀ b o, F b = some o → b ∉ N := fun b o e hb => by
    have := h.fh.free (hN b hb).1
    rw [this] at e; cases e
  have FF : Same F (fun b => if b ∈ N then none else if b ∈ A then none else H' b) := fun b o e => by
    have nA : b ∉ A := fun hb => by rw [h.fr b hb] at e; cases e
    show (if b ∈ N then none else if b ∈ A then none else H' b) = some o
    rw [if_neg (nF b o e), if_neg nA]
    exact g _ _ (h.fh _ _ e)
  have hA : ∀ b ∈ A, H' b = H b := fun b hb => by
    rcases h.mutA b hb with ⟨_, z⟩ | ⟨_, z⟩ <;> rw [z, g _ _ z]
  refine ⟨h.bf.trans FF, fun b o e => ?_, fun b o e => ?_, h.sl.mono fun o s C _ hC q => q.stay FF (fun b hb => hA b (hC b hb)) fun _ => g, h.nd, fun a ha => ?_, h.len, h.pl⟩
  · by_cases hb : b ∈ N
    · rw [if_pos hb] at e; cases e
    · rw [if_neg hb] at e; exact h1.fh _ _ e
  · show (if b ∈ N then none else if b ∈ A then none else H' b) = some o
    by_cases hb : b ∈ N
    · obtain ⟨e1, e2⟩ := Option.filter_eq_some_iff.mp e
      rcases (hN b hb).2 with ⟨us, z⟩ | ⟨us, z⟩ <;> rw [z] at e1 <;> cases e1 <;> cases e2
    · rw [if_neg hb]; exact h1.tf _ _ e
  · show (if a ∈ N then none else if a ∈ A then none else H' a) = none
    by_cases hb : a ∈ N
    · rw [if_pos hb]
    · rw [if_neg hb, if_pos ha]
theorem FrF.pushR (h : FrF K B F A σ H E xs Xs) (q : SlOk K F H σ (some v) s N) (nd : N.Nodup) (dj : ∀ a ∈ N, a ∉ A) (fr : ∀ a ∈ N, F a = none) : FrF K B F (N ++ A) σ H E (v :: xs) (s :: Xs) :=
  ⟨h.bf, h.fh, h.tf, .cons q h.sl, List.nodup_append.mpr ⟨nd, h.nd, fun a ha b hb e => dj a ha (e ▸ hb)⟩, fun a ha => (List.mem_append.mp ha).elim (fr a) (h.fr a), by simp [h.len], h.pl⟩
theorem FrF.told (h : FrF K B F A σ H E xs Xs) (g : Same H H') (q : ResOk K H H' v s) : Frm K B σ H' E (v :: xs) (s :: Xs) := by
  cases s with
  | sh d =>
    have h1 := h.grow g
    exact ⟨_, _, h1.push ⟨rfl, v, rfl, Rp.same h1.tf q⟩⟩
  | ow ds =>
    obtain ⟨l, vs, rfl, hl, hl', r⟩ := q
    have h1 := h.growN (N := [l]) g fun a ha => by rw [List.mem_singleton.mp ha]; exact ⟨hl, .inl ⟨vs, hl'⟩⟩
    exact ⟨_, _, h1.pushR (N := [l]) ⟨l, vs, rfl, rfl, hl', r.same h1.tf⟩ (by simp) (fun a ha => by rw [List.mem_singleton.mp ha]; exact h.newA hl) fun a ha => if_pos ha⟩
  | tx ps =>
    obtain ⟨t, vs, N, rfl, ht, nd, hN, r⟩ := q
    have h1 := h.growN (N := N) g fun a ha => ⟨hN a ha, .inl (r.some a ha)⟩
    exact ⟨_, _, h1.pushR (N := N) ⟨t, vs, rfl, h1.tf _ _ ht, r.stay h1.tf fun _ _ => rfl⟩ nd (fun a ha => h.newA (hN a ha)) fun a ha => if_pos ha⟩
  | no => exact False.elim q
  | od kvs =>
    obtain ⟨l, us, N, rfl, nd, hN, hl, r⟩ := q
    have h1 := h.growN (N := l :: N) g fun a ha => ⟨hN a ha, (List.mem_cons.mp ha).elim (fun z => .inr ⟨us, z ▸ hl⟩) fun z => .inl (r.some a z)⟩
    exact ⟨_, _, h1.pushR (N := l :: N) ⟨l, us, N, rfl, rfl, hl, r.stay h1.tf fun _ _ => rfl⟩ nd (fun a ha => h.newA (hN a ha)) fun a ha => if_pos ha⟩
  | al i => exact False.elim q
  | br d =>
    have h1 := h.grow g
    exact ⟨_, _, h1.push ⟨rfl, v, rfl, q⟩⟩
end
noncomputable def pCall (c : List PyData → Option Sl) (g : PAv) : PEv := fun E => (g E).bind fun a => (lookA a.2 a.1).bind fun ds => (c ds).map fun r => (r, a.2)
theorem xe_own {X : Cx} {k : Nat} {x : Str} {ps : List Str} {c : List PyData → Option Sl} {p pos : Pos} {e : Expr} {es : List Expr} {m : Bool} {g : PAv} (D : Own X.prog X.w X.K X.mg X.base k x ps (spP X.K c)) (hr : Room k X.A) (hg : Gl X x) (ha : AX X (e :: es) m g)
    (hdb : (x == ("__debug__" : Str)) = false := by decide) (he : starEach (e :: es) X.env = (false, eval e X.env) :: starEach es X.env := by rfl) (hpl : (backTo pos (starEach es X.env)).any (·.1) = false := by rfl) :
    EX X (.Call (.Name x p) (e :: es) [] pos) m (pCall c g) := by
  refine pe_imp (pe_own D hr hg ha hdb he hpl) fun σ H Q z => ?_
  obtain ⟨B, E, xs, Xs, res, E', fr, cl, e, q⟩ := z
  obtain ⟨⟨rs, E1⟩, e1, e⟩ := Option.bind_eq_some_iff.mp e
  obtain ⟨ds, e2, e⟩ := Option.bind_eq_some_iff.mp e
  obtain ⟨r, e3, e⟩ := Option.map_eq_some_iff.mp e
  cases e
  refine ⟨B, E, xs, Xs, rs, E1, fr, cl, e1, fun vs H1 hl ⟨F, A, fr1⟩ => ?_⟩
  obtain ⟨r1, A', fr2⟩ := fr1.looks hl e2
  exact ⟨ds, res, e3, by rw [List.append_nil]; exact r1, fun v H' g q' => q v H' (fr2.told g q')⟩
noncomputable def pAppend (i : Nat) (f : PEv) : PEv := fun E => match E[i]? with
  | some (.ow _) => (f E).bind fun a => (frz a.2 a.1).bind fun b => match b.2[i]? with
    | some (.ow ds) => if ds.length < 1000000 then some (.sh .none, b.2.set i (.ow (ds ++ [b.1]))) else none
    | _ => none
  | _ => none
noncomputable def pPop (i : Nat) : PEv := fun E => match E[i]? with
  | some (.ow ds) => (ds[ds.length - 1]?).map fun d => (.sh d, E.set i (.ow ds.dropLast))
  | _ => none
section
variable {X : Cx} {e : Expr} {m1 : Bool} {f : PEv} {x : Str} {p apos cpos : Pos}
theorem xe_append (i : Nat) (he : EX X e m1 f) (hN : X.N[i]? = some x := by rfl) (hv : Vis X.env.scope x := by first | exact Or.inl rfl | exact Or.inr (Or.inl rfl) | exact Or.inr (Or.inr rfl)) (hd : (x == ("__debug__" : Str)) = false := by decide) (hcd : (x == ("__classdict__" : Str)) = false := by decide)
    (hs : starEach [e] X.env = [(false, eval e X.env)] := by rfl) (hbase : attributeBase (.Name x p) "append" X.env (eval (.Name x p) X.env) = eval (.Name x p) X.env := by rfl)
    (hfew : ((backTo cpos (starEach [e] X.env)).all (fun x => !x.1) && (backToKw cpos (keywordEach [] X.env)).all (fun x => x.1.isSome)
      && decide (([e] : List Expr).length + ([] : List Keyword).length + (if ([] : List Keyword).isEmpty then 0 else 1) < 30)) = true := by rfl) (hline : (apos.endLine == cpos.line) = true := by rfl) :
    EX X (.Call (.Attribute (.Name x p) "append" apos) [e] [] cpos) true (pAppend i f) := by
  refine pe_imp (pe_bm PySem.F.plainAttrs_list PySem.F.slot_list_append PySem.F.type_list_append mt_append (pe_var hN hv hd hcd) (pa_cons he pa_nil hs) hbase hfew hline hs rfl) fun σ H Q z => ?_
  obtain ⟨B, E, xs, Xs, res, E', ⟨F, A, fr⟩, cl, e, q⟩ := z
  unfold pAppend at e
  split at e
  · rename_i ds0 ei
    obtain ⟨⟨s, E1⟩, e1, e⟩ := Option.bind_eq_some_iff.mp e
    obtain ⟨⟨d, E2⟩, e2, e⟩ := Option.bind_eq_some_iff.mp e
    simp only at e
    split at e
    · rename_i ds ei2
      split at e
      · rename_i hl
        cases e
        obtain ⟨o, A1, eo, l, vs, rfl, rfl, hl0, _⟩ := fr.var ei
        refine ⟨_, eo, .inl ⟨rfl, _, SqL.of hl0⟩, B, E, xs, Xs, s, E1, ⟨F, A, fr⟩, fun _ => cl rfl, e1, fun v H1 ⟨F1, A1, fr1⟩ => ?_⟩
        obtain ⟨F2, A2, fr2⟩ := fr1.frz0 e2
        obtain ⟨v', A3, ev, rfl, w, ew, rv⟩ := fr2.ext (k := 0) rfl
        cases ev; cases ew
        obtain ⟨A4, fr3⟩ := fr2.pop
        obtain ⟨l', vs', eo', hl', r', put⟩ := fr3.mut ei2 (cl rfl)
        rw [eo] at eo'
        cases eo'
        have ll := r'.len
        have fr4 := put (vs' ++ [v]) (ds ++ [d]) (r'.snoc rv)
        exact ⟨l, vs', v, rfl, rfl, hl', small (by omega), q _ _ ⟨_, _, fr4.push ⟨rfl, _, rfl, .non⟩⟩⟩
      · cases e
    · cases e
  · cases e
theorem xe_pop (i : Nat) (hN : X.N[i]? = some x := by rfl) (hv : Vis X.env.scope x := by first | exact Or.inl rfl | exact Or.inr (Or.inl rfl) | exact Or.inr (Or.inr rfl)) (hd : (x == ("__debug__" : Str)) = false := by decide) (hcd : (x == ("__classdict__" : Str)) = false := by decide)
    (hbase : attributeBase (.Name x p) "pop" X.env (eval (.Name x p) X.env) = eval (.Name x p) X.env := by rfl) (hline : (apos.endLine == cpos.line) = true := by rfl) :
    EX X (.Call (.Attribute (.Name x p) "pop" apos) [] [] cpos) true (pPop i) := by
  refine pe_imp (pe_bm0 PySem.F.plainAttrs_list PySem.F.slot_list_pop PySem.F.type_list_pop mt_pop (pe_var hN hv hd hcd) hbase hline) fun σ H Q z => ?_
  obtain ⟨B, E, xs, Xs, res, E', ⟨F, A, fr⟩, cl, e, q⟩ := z
  unfold pPop at e
  split at e
  · rename_i ds ei
    obtain ⟨d, ed, e⟩ := Option.map_eq_some_iff.mp e
    cases e
    obtain ⟨l, vs, eo, hl, r, put⟩ := fr.mut ei (cl rfl)
    obtain ⟨y, ey, ry⟩ := r.get ed
    have fr2 := put vs.dropLast ds.dropLast r.dropLast
    exact ⟨_, eo, .inl ⟨rfl, _, SqL.of hl⟩, l, vs, y, rfl, rfl, hl, by rw [r.len]; exact ey, q _ _ ⟨_, _, fr2.push ⟨rfl, _, rfl, ry⟩⟩⟩
  · cases e
end
noncomputable def frzSl (s : Sl) : Sl := match s.val with
  | some d => .sh d
  | none => .no
noncomputable def frzAll (E : List Sl) : List Sl := E.map frzSl
noncomputable def settle (E : List Sl) : Sl → Option (Sl × List Sl)
  | .al i => (frz E (.al i)).map fun a => (.sh a.1, a.2)
  | .br d => if flat d then some (.sh d, E) else some (.sh d, frzAll E)
  | s => some (s, E)
noncomputable def pSeq (g h : PSv) : PSv := fun E => (g E).bind fun a => match a.2 with
  | .nx => h a.1
  | fl => some (a.1, fl)
noncomputable def pNext : PSv := fun E => some (E, .nx)
noncomputable def pBreak : PSv := fun E => some (E, .bk)
noncomputable def pCont : PSv := fun E => some (E, .ct)
noncomputable def pExpr (f : PEv) : PSv := fun E => (f E).map fun a => (a.2, .nx)
noncomputable def pRetN : PSv := fun E => some (E, .rt (.sh .none))
noncomputable def pRet (f : PEv) : PSv := fun E => (f E).bind fun a => match a.1 with
  | .al i => (a.2[i]?).map fun s => (a.2.set i .no, .rt s)
  | s => some (a.2, .rt s)
noncomputable def pIfS (c : PTv) (g h : PSv) : PSv := fun E => (c E).bind fun a => if a.1 then g a.2 else h a.2
noncomputable def pSet (i : Nat) (f : PEv) : PSv := fun E => (f E).bind fun a => (settle a.2 a.1).bind fun b => if i < b.2.length then some (b.2.set i b.1, .nx) else none
section
variable {K : PySem.W.Frag} {B F : Hp} {A : List Addr} {σ : SgT} {H : Hp} {E E' : List Sl} {xs : List V} {Xs : List Sl} {v : V} {s s' : Sl} {d : PyData}
theorem FrF.frzAll (h : FrF K B F A σ H E xs Xs) (hX : Xs = []) : FrF K B H [] σ H (PL.frzAll E) [] [] := by
  subst hX
  have hx : xs = [] := by simpa using h.len
  subst hx
  refine ⟨h.bf.trans h.fh, Same.refl _, tups_same H, ?_, List.nodup_nil, fun a ha => (by cases ha), rfl, fun s hs => ?_⟩
  · have key : ∀ {os : List (Option V)} {ss : List Sl} {C : List Addr}, SAll (SlOk K F H σ) os ss C → SAll (SlOk K H H σ) os (PL.frzAll ss) [] := fun {os ss C} r => by
      induction r with
      | nil => exact .nil
      | cons q _ ih =>
        refine .cons (A := []) ?_ ih
        unfold frzSl
        split
        · rename_i d e
          obtain ⟨v, rfl, r, _⟩ := q.val h.fh e
          exact ⟨rfl, v, rfl, r⟩
        · exact rfl
    exact key h.sl
  · obtain ⟨t, _, rfl⟩ := List.mem_map.mp hs
    unfold frzSl
    split <;> rfl
theorem FrF.settle (h : FrF K B F A σ H E (v :: xs) (s :: Xs)) (hX : Xs = []) (q : PL.settle E s = some (s', E')) : s'.isAl = false ∧ Frm K B σ H E' (v :: xs) (s' :: Xs) := by
  cases s with
  | al i =>
    obtain ⟨⟨d, E2⟩, e, z⟩ := Option.map_eq_some_iff.mp (show (frz E (.al i)).map (fun a => (Sl.sh a.1, a.2)) = some (s', E') from q)
    cases z
    obtain ⟨F', A', h'⟩ := h.frz0 e
    exact ⟨rfl, F', A', h'⟩
  | br d =>
    have r := (h.look0 (d := d) rfl).1
    obtain ⟨A', h'⟩ := h.pop
    simp only [PL.settle] at q
    split at q
    · rename_i hf
      cases q
      exact ⟨rfl, F, A', h'.push ⟨rfl, v, rfl, h.cold r hf⟩⟩
    · cases q
      have h2 := h'.frzAll hX
      have hl := h'.len
      subst hX
      have hx : xs = [] := by simpa using hl
      subst hx
      exact ⟨rfl, H, [], h2.push ⟨rfl, v, rfl, r⟩⟩
  | no => cases q; exact ⟨rfl, F, A, h⟩
  | sh d => cases q; exact ⟨rfl, F, A, h⟩
  | ow ds => cases q; exact ⟨rfl, F, A, h⟩
  | od kvs => cases q; exact ⟨rfl, F, A, h⟩
  | tx ps => cases q; exact ⟨rfl, F, A, h⟩
theorem FrF.move {i : Nat} (h : FrF K B F A σ H E (v :: xs) (.al i :: Xs)) (e : E[i]? = some s) : Frm K B σ H (E.set i .no) (v :: xs) (s :: Xs) := by
  obtain ⟨v', A1, ev, rfl, w, ew, hw⟩ := h.ext (k := 0) rfl
  cases ev; cases ew
  obtain ⟨A', h'⟩ := h.pop
  obtain ⟨o, A0, A1, A2, eA, eo, hp, put⟩ := h'.sl.at (k := Xs.length + i) (s := s) (by rw [List.getElem?_append_right (by omega)]; simpa using e)
  have z := put (SlOk K F H σ) o .no [] rfl fun _ _ _ _ _ q => q
  have e3 : (Xs ++ E).set (Xs.length + i) .no = Xs ++ E.set i .no := by
    rw [List.set_append_right _ _ (by omega), Nat.add_sub_cancel_left]
  have e2 : (List.map some xs ++ σ).set (Xs.length + i) o = List.map some xs ++ σ := List.ext_getElem? fun j => by
    by_cases hj : Xs.length + i = j
    · subst hj
      rw [List.getElem?_set_self', eo]; rfl
    · rw [List.getElem?_set_ne hj]
  rw [e2, e3] at z
  rw [List.getElem?_append_right (by rw [List.length_map, h'.len]; omega), List.length_map, h'.len, Nat.add_sub_cancel_left, hw] at eo
  cases eo
  have nd := h'.nd
  rw [eA] at nd
  refine ⟨F, A1 ++ (A0 ++ ([] ++ A2)), h.bf, h.fh, h.tf, .cons hp z, ?_, fun a ha => h'.fr a ?_, h.len, fun s' hs => ?_⟩
  · have p : (A1 ++ (A0 ++ ([] ++ A2))).Perm (A0 ++ (A1 ++ A2)) := by
      rw [List.nil_append, ← List.append_assoc, ← List.append_assoc]
      exact List.Perm.append_right _ List.perm_append_comm
    exact p.nodup_iff.mpr nd
  · rw [eA]
    simp only [List.mem_append, List.nil_append] at ha ⊢
    rcases ha with z | z | z
    · exact .inr (.inl z)
    · exact .inl z
    · exact .inr (.inr z)
  · rcases List.mem_or_eq_of_mem_set hs with hs | hs
    · exact h.pl s' hs
    · subst hs; rfl
end
section
variable {X : Cx} {st : Stmt} {rest a b : List Stmt} {g h : PSv} {e c : Expr} {m : Bool} {f : PEv} {t : PTv} {pos : Pos}
theorem xss_nil : SSX X [] pNext := pss_imp pss_nil fun D σ H z => by
  obtain ⟨B, E, xs, Xs, E', fl, fr, cl, e, q⟩ := z
  cases e
  exact q _ _ fr
theorem xss_one (h1 : SX X st g) : SSX X [st] g := pss_one h1
theorem rs_seq {K : PySem.W.Frag} {D : Ends} {σ : SgT} {H : Hp} (z : rs K (pSeq g h) D σ H) : rs K g { D with nx := rs K h D } σ H := by
  obtain ⟨B, E, xs, Xs, E', fl, fr, cl, e, q⟩ := z
  obtain ⟨⟨E1, f1⟩, e1, e⟩ := Option.bind_eq_some_iff.mp e
  refine ⟨B, E, xs, Xs, E1, f1, fr, cl, e1, ?_⟩
  cases f1 with
  | nx => exact fun σ' H' fr' => ⟨B, E1, xs, Xs, E', fl, fr', cl, e, q⟩
  | bk => cases e; exact q
  | ct => cases e; exact q
  | rt r => cases e; exact q
theorem xss_cons (h1 : SX X st g) (h2 : SSX X rest h) : SSX X (st :: rest) (pSeq g h) := pss_imp (pss_cons h1 h2) fun D σ H z => rs_seq z
theorem xs_expr (he : EX X e m f) (hs : swapsWith e none pos.line X.env = pure false := by rfl) : SX X (.Expr e pos) (pExpr f) := ps_imp (ps_expr he hs) fun D σ H z => by
  obtain ⟨B, E, xs, Xs, E', fl, fr, cl, e, q⟩ := z
  obtain ⟨⟨s, E1⟩, e1, e⟩ := Option.map_eq_some_iff.mp e
  cases e
  refine ⟨B, E, xs, Xs, s, E1, fr, fun _ => Calm.nil cl, e1, fun v H1 ⟨F, A, fr1⟩ => ?_⟩
  obtain ⟨A', fr2⟩ := fr1.pop
  exact q _ _ ⟨F, A', fr2⟩
theorem xs_ret (he : EX X e m f) : SX X (.Return (some e) pos) (pRet f) := ps_imp (ps_ret he) fun D σ H z => by
  obtain ⟨B, E, xs, Xs, E', fl, fr, cl, e, q⟩ := z
  obtain ⟨⟨s, E1⟩, e1, e⟩ := Option.bind_eq_some_iff.mp e
  refine ⟨B, E, xs, Xs, s, E1, fr, fun _ => Calm.nil cl, e1, fun v H1 ⟨F, A, fr1⟩ => ?_⟩
  simp only at e
  split at e
  · obtain ⟨s', es, e⟩ := Option.map_eq_some_iff.mp e
    cases e
    exact q σ _ _ (fr1.move es)
  · cases e
    exact q σ _ _ ⟨F, A, fr1⟩
theorem xs_if (hc : TX X c m t) (ha : SSX X a g) (hb : SSX X b h) : SX X (.If c a b pos) (pIfS t g h) := ps_imp (ps_if hc ha hb) fun D σ H z => by
  obtain ⟨B, E, xs, Xs, E', fl, fr, cl, e, q⟩ := z
  obtain ⟨⟨b1, E1⟩, e1, e⟩ := Option.bind_eq_some_iff.mp e
  refine ⟨B, E, xs, Xs, b1, E1, fr, fun _ => Calm.nil cl, e1, fun H1 fr1 => ?_⟩
  cases b1 with
  | true => exact (if_pos rfl).mpr ⟨B, E1, xs, Xs, E', fl, fr1, cl, e, q⟩
  | false => exact (if_neg (by decide)).mpr ⟨B, E1, xs, Xs, E', fl, fr1, cl, e, q⟩
theorem xs_set (i : Nat) {x : Str} {pos' : Pos} (hN : X.N.Nodup) (he : EX X e m f) (hi : X.N[i]? = some x := by rfl) (hx : Loc X.env.scope x := by first | exact Or.inl rfl | exact Or.inr rfl) (hs : swapsWith e (some (.Name x pos')) pos.line X.env = pure false := by rfl) (hf : X.fn x = true ∨ X.env.scope.names.lookup x = some .local := by first | exact .inl rfl | exact .inr rfl | assumption) :
    SX X (.Assign [.Name x pos'] e pos) (pSet i f) := ps_imp (ps_set hN hi hx he hs hf) fun D σ H z => by
  obtain ⟨B, E, xs, Xs, E', fl, fr, cl, e, q⟩ := z
  obtain ⟨⟨s, E1⟩, e1, e⟩ := Option.bind_eq_some_iff.mp e
  obtain ⟨⟨s', E2⟩, e2, e⟩ := Option.bind_eq_some_iff.mp e
  refine ⟨B, E, xs, Xs, s, E1, fr, fun _ => Calm.nil cl, e1, fun v H1 ⟨F, A, fr1⟩ => ?_⟩
  obtain ⟨c1, F2, A2, fr2⟩ := fr1.settle cl e2
  simp only at e
  split at e
  · rename_i hi
    cases e
    obtain ⟨A3, fr3⟩ := fr2.store c1 (Still.nil cl) hi
    exact q _ _ ⟨F2, A3, fr3⟩
  · cases e
end
end PL
namespace PL
open PySem L2 Nh
noncomputable abbrev PGv := PyData → List Sl → Option (List Sl)
noncomputable abbrev PGsv := List PyData → List Sl → Option (List Sl)
noncomputable def rg (K : PySem.W.Frag) (h : PGv) : TG := fun v σ H Q => ∃ B E xs Xs d E', Frm K B σ H E (v :: xs) (.sh d :: Xs) ∧ Still Xs ∧ h d E = some E' ∧ ∀ σ' H', Frm K B σ' H' E' xs Xs → Q σ' H'
noncomputable def rgs (K : PySem.W.Frag) (h : PGsv) : TGs := fun vs σ H Q => ∃ B E xs Xs ds E', vs.length = ds.length ∧ Frm K B σ H E (vs ++ xs) (ds.map .sh ++ Xs) ∧ Still Xs ∧ h ds E = some E' ∧ ∀ σ' H', Frm K B σ' H' E' xs Xs → Q σ' H'
noncomputable def GX (X : Cx) (e : Expr) (h : PGv) : Prop := PG X e (rg X.K h)
noncomputable def GsX (X : Cx) (es : List Expr) (h : PGsv) : Prop := PGs X es (rgs X.K h)
noncomputable def gNameP (i : Nat) : PGv := fun d E => if i < E.length then some (E.set i (.sh d)) else none
noncomputable def gNilP : PGsv := fun ds E => if ds.isEmpty then some E else none
noncomputable def gConsP (h : PGv) (hs : PGsv) : PGsv := fun ds E => match ds with
  | d :: ds => (h d E).bind (hs ds)
  | [] => none
noncomputable def gTupP (n : Nat) (hs : PGsv) : PGv := fun d E => match d with
  | .tuple ds => if ds.length = n then hs ds E else none
  | _ => none
section
variable {X : Cx}
theorem pg_imp {e : Expr} {t t' : TG} (h : PG X e t) (k : ∀ v σ H Q, t' v σ H Q → t v σ H Q) : PG X e t' := fun pins s σ H v u Q I r q => h pins s σ H v u Q I r (k v σ H Q q)
theorem pgs_imp {es : List Expr} {t t' : TGs} (h : PGs X es t) (k : ∀ v σ H Q, t' v σ H Q → t v σ H Q) : PGs X es t' := fun pins s σ H v u Q I r q => h pins s σ H v u Q I r (k v σ H Q q)
theorem xg_name (i : Nat) {x : Str} {pos : Pos} (hN : X.N.Nodup) (hi : X.N[i]? = some x := by rfl) (hx : Loc X.env.scope x := by first | exact Or.inl rfl | exact Or.inr rfl) (hf : X.fn x = true ∨ X.env.scope.names.lookup x = some .local := by first | exact .inl rfl | exact .inr rfl | assumption) : GX X (.Name x pos) (gNameP i) := pg_imp (pg_name hN hi hx hf) fun v σ H Q z => by
  obtain ⟨B, E, xs, Xs, d, E', ⟨F, A, fr⟩, cl, e, q⟩ := z
  unfold gNameP at e
  split at e
  · rename_i hi
    cases e
    obtain ⟨A', fr'⟩ := fr.store rfl cl hi
    exact q _ _ ⟨F, A', fr'⟩
  · cases e
theorem xgs_nil : GsX X [] gNilP := pgs_imp pgs_nil fun v σ H Q z => by
  obtain ⟨B, E, xs, Xs, ds, E', hl, fr, cl, e, q⟩ := z
  unfold gNilP at e
  split at e
  · rename_i hd
    cases e
    have : ds = [] := by simpa using hd
    subst this
    have hv : v = [] := by simpa using hl
    subst hv
    exact ⟨rfl, q _ _ fr⟩
  · cases e
theorem xgs_cons {e : Expr} {es : List Expr} {h : PGv} {hs : PGsv} (h1 : GX X e h) (h2 : GsX X es hs) (hst : (assignEach (e :: es) X.env).map (·.2) = assign e X.env :: (assignEach es X.env).map (·.2) := by rfl) : GsX X (e :: es) (gConsP h hs) := pgs_imp (pgs_cons h1 h2 hst) fun v σ H Q z => by
  obtain ⟨B, E, xs, Xs, ds, E', hl, fr, cl, e, q⟩ := z
  cases ds with
  | nil => cases e
  | cons d ds =>
    cases v with
    | nil => cases hl
    | cons v vs =>
      obtain ⟨E1, e1, e2⟩ := Option.bind_eq_some_iff.mp e
      refine ⟨v, vs, rfl, B, E, vs ++ xs, ds.map Sl.sh ++ Xs, d, E1, fr, fun s hs => ?_, e1, fun σ1 H1 fr1 => ⟨B, E1, xs, Xs, ds, E', by simpa using hl, fr1, cl, e2, q⟩⟩
      rcases List.mem_append.mp hs with hs | hs
      · obtain ⟨d', _, rfl⟩ := List.mem_map.mp hs
        rfl
      · exact cl s hs
theorem xg_tup {es : List Expr} {k : Nat} {pos : Pos} {hs : PGsv} {n : Nat} (hc : X.calm = true) (h : GsX X es hs) (hn : (assignEach es X.env).length = n := by rfl) (hst : (assignEach es X.env).findIdx? (·.1) = none := by rfl) : GX X (.Tuple es k pos) (gTupP n hs) := pg_imp (pg_tup hc h hn hst) fun v σ H Q z => by
  obtain ⟨B, E, xs, Xs, d, E', ⟨F, A, fr⟩, cl, e, q⟩ := z
  unfold gTupP at e
  split at e
  · rename_i ds
    split at e
    · rename_i hl
      obtain ⟨v', A1, ev, rfl, w, ew, r⟩ := fr.ext (k := 0) rfl
      cases ev; cases ew
      cases r with
      | tup h1 h2 =>
        obtain ⟨A', fr'⟩ := fr.pop
        have key : ∀ {us : List V} {es : List PyData}, RpA X.K F us es → FrF X.K B F A' σ H E (us ++ xs) (es.map .sh ++ Xs) := fun {us es} r => by
          induction us generalizing es with
          | nil => cases r; exact fr'
          | cons u us ih =>
            cases r with
            | cons r1 r2 => exact (ih r2).push ⟨rfl, _, rfl, r1⟩
        exact ⟨_, _, rfl, fr.fh.tup h1, by rw [h2.len]; exact hl, B, E, xs, Xs, ds, E', h2.len, ⟨F, A', key h2⟩, cl, e, q⟩
    · cases e
  · cases e
end
noncomputable def pAsg (f : PEv) (h : PGv) : PSv := fun E => (f E).bind fun a => (frz a.2 a.1).bind fun b => (h b.1 b.2).map fun E' => (E', .nx)
noncomputable def pSetIx (i : Nat) (fi fe : PEv) : PSv := fun E => (fe E).bind fun a => (frz a.2 a.1).bind fun b => match b.2[i]? with
  | some (.ow _) => (fi b.2).bind fun c => match look c.2 c.1, c.2[i]? with
    | some (.int k), some (.ow ds) => (ixN ds.length k).map fun j => (c.2.set i (.ow (ds.set j b.1)), .nx)
    | _, _ => none
  | _ => none
theorem xs_setix {X : Cx} (i : Nat) {e ei : Expr} {x : Str} {m m2 : Bool} {fe fi : PEv} {p p2 pos : Pos} (he : EX X e m fe) (hi : EX X ei m2 fi) (hN : X.N[i]? = some x := by rfl) (hv : Vis X.env.scope x := by first | exact Or.inl rfl | exact Or.inr (Or.inl rfl) | exact Or.inr (Or.inr rfl)) (hd : (x == ("__debug__" : Str)) = false := by decide) (hcd : (x == ("__classdict__" : Str)) = false := by decide)
    (hs : swapsWithSole [.Subscript (.Name x p) ei p2] e pos.line X.env = pure false := by rfl) (hw : swappedStores [.Subscript (.Name x p) ei p2] e X.env = pure none := by rfl) (h1 : (assignEach [.Subscript (.Name x p) ei p2] X.env).map (·.2) = [assign (.Subscript (.Name x p) ei p2) X.env] := by rfl)
    (ha : ∀ v, assign (.Subscript (.Name x p) ei p2) X.env v = (do
      let ov ← holding [v] (eval (.Name x p) X.env)
      let iv ← holding [v, ov] (eval ei X.env)
      standAt p2
      holding [v, ov, iv] (setItem ov iv v)
      release [v, ov, iv] []) := by intro _; rfl) : SX X (.Assign [.Subscript (.Name x p) ei p2] e pos) (pSetIx i fi fe) := ps_imp (ps_asg he (pg_sub (pe_var hN hv hd hcd) hi set_list ha) hs hw h1) fun D σ H z => by
  obtain ⟨B, E, xs, Xs, E', fl, fr, cl, e, q⟩ := z
  obtain ⟨⟨s, E1⟩, e1, e⟩ := Option.bind_eq_some_iff.mp e
  obtain ⟨⟨d, E2⟩, e2, e⟩ := Option.bind_eq_some_iff.mp e
  refine ⟨B, E, xs, Xs, s, E1, fr, fun _ => Calm.nil cl, e1, fun v H1 ⟨F, A, fr1⟩ => ?_⟩
  obtain ⟨F2, A2, fr2⟩ := fr1.frz0 e2
  simp only at e
  split at e
  · rename_i ds0 ei
    obtain ⟨⟨s3, E3⟩, e3, e⟩ := Option.bind_eq_some_iff.mp e
    obtain ⟨o, A1, eo, l, vs0, rfl, _⟩ := fr2.var ei
    refine ⟨_, eo, B, E2, v :: xs, .sh d :: Xs, s3, E3, ⟨F2, A2, fr2⟩, fun _ => Calm.cons (Calm.nil cl) rfl, e3, fun v3 H3 ⟨F3, A3, fr3⟩ => ?_⟩
    simp only at e
    split at e
    · rename_i k ds lk ei3
      obtain ⟨j, ej, e⟩ := Option.map_eq_some_iff.mp e
      cases e
      have r3 := (fr3.look0 lk).1
      cases r3
      obtain ⟨A4, fr4⟩ := fr3.pop
      obtain ⟨v', A5, ev, rfl, w, ew, rv⟩ := fr4.ext (k := 0) rfl
      cases ev; cases ew
      obtain ⟨A6, fr5⟩ := fr4.pop
      obtain ⟨l', vs', eo', hl', r', put⟩ := fr5.mut ei3 (Calm.nil cl)
      rw [eo] at eo'
      cases eo'
      exact ⟨l, vs', k, j, rfl, rfl, hl', by rw [r'.len]; exact ej, q _ _ ⟨_, _, put _ _ (r'.set j rv)⟩⟩
    · cases e
  · cases e
noncomputable def ItOk (K : PySem.W.Frag) (B0 : Hp) (J : It) (ds : List PyData) : Prop := ∀ {B F : Hp} {A : List Addr} {σ : SgT} {H : Hp} {E : List Sl} {xs : List V} {Xs : List Sl} (i : Nat), Same B0 B → FrF K B F A σ H E xs Xs →
  (∀ d, ds[i]? = some d → J.go i H ∧ ∀ x H2, J.yld i H x H2 → Frm K B σ H2 E (x :: xs) (.sh d :: Xs)) ∧ (i = ds.length → J.stop i H)
noncomputable def ri (K : PySem.W.Frag) (m : Bool) (f : PDv) : TI := fun σ H R => ∃ B E xs Xs ds E', Frm K B σ H E xs Xs ∧ (m = true → Calm Xs) ∧ f E = some (ds, E') ∧ ∀ B' J H', Same B B' → Frm K B' σ H' E' xs Xs → ItOk K B' J ds → R J H'
noncomputable def IX (X : Cx) (tg e : Expr) (m : Bool) (f : PDv) : Prop := PI X tg e (ri X.K m f)
theorem FrF.base {K : PySem.W.Frag} {B B' F : Hp} {A : List Addr} {σ : SgT} {H : Hp} {E : List Sl} {xs : List V} {Xs : List Sl} (h : FrF K B' F A σ H E xs Xs) (s : Same B B') : FrF K B F A σ H E xs Xs := ⟨s.trans h.bf, h.fh, h.tf, h.sl, h.nd, h.fr, h.len, h.pl⟩
theorem Frm.base {K : PySem.W.Frag} {B B' : Hp} {σ : SgT} {H : Hp} {E : List Sl} {xs : List V} {Xs : List Sl} (h : Frm K B' σ H E xs Xs) (s : Same B B') : Frm K B σ H E xs Xs := let ⟨F, A, h⟩ := h; ⟨F, A, h.base s⟩
theorem FrF.raise {K : PySem.W.Frag} {B F : Hp} {A : List Addr} {σ : SgT} {H : Hp} {E : List Sl} {xs : List V} {Xs : List Sl} (h : FrF K B F A σ H E xs Xs) : FrF K F F A σ H E xs Xs := ⟨Same.refl _, h.fh, h.tf, h.sl, h.nd, h.fr, h.len, h.pl⟩
noncomputable def iLst (f : PEv) : PDv := fun E => (f E).bind fun a => (frz a.2 a.1).bind fun b => match b.1 with
  | .list ds => some (ds, b.2)
  | _ => none
noncomputable def rngD (lo : Int) (n : Nat) : List PyData := (List.range n).map fun (k : Nat) => .int (lo + (k : Int))
noncomputable def iRng1P (g : PAv) : PDv := fun E => (g E).bind fun a => match lookA a.2 a.1 with
  | some [.int j] => if -1000000 ≤ j ∧ j ≤ 1000000 then some (rngD 0 j.toNat, a.2) else none
  | _ => none
noncomputable def iRng2P (g : PAv) : PDv := fun E => (g E).bind fun a => match lookA a.2 a.1 with
  | some [.int i, .int j] => if -1000000 ≤ i ∧ i ≤ 1000000 ∧ -1000000 ≤ j ∧ j ≤ 1000000 then some (rngD i (j - i).toNat, a.2) else none
  | _ => none
noncomputable def iRevP (f : PEv) : PDv := fun E => (f E).bind fun a => (frz a.2 a.1).bind fun b => match b.1 with
  | .list ds => some (ds.reverse, b.2)
  | _ => none
section
variable {X : Cx} {tg e e2 : Expr} {m : Bool} {f : PEv} {g : PAv} {p pos : Pos} {K : PySem.W.Frag} {B : Hp}
theorem pi_imp {t t' : TI} (h : PI X tg e t) (k : ∀ σ H Q, t' σ H Q → t σ H Q) : PI X tg e t' := fun pins s σ H R I q => h pins s σ H R I (k σ H R q)
theorem itOk_list {a : Addr} {vs : List V} {ds : List PyData} (h : SqL K B a vs) (r : RpA K B vs ds) : ItOk K B (Itl K a) ds := fun {B' F A σ H E xs Xs} i sB fr => by
  have hH := fr.fh.seq (fr.bf.seq (sB.seq h))
  refine ⟨fun d ed => ?_, fun e => ⟨vs, hH, by rw [e, r.len]; exact Nat.le_refl _⟩⟩
  obtain ⟨v, ev, rv⟩ := r.get ed
  refine ⟨⟨vs, v, hH, ev⟩, fun x H2 ⟨e2, y⟩ => ?_⟩
  subst e2
  have := y vs hH
  rw [ev] at this
  cases this
  exact ⟨F, A, fr.push ⟨rfl, _, rfl, rv.same (sB.trans fr.bf)⟩⟩
theorem itOk_rev {a : Addr} {vs : List V} {ds : List PyData} (h : SqL K B a vs) (r : RpA K B vs ds) : ItOk K B (Itv K a vs) ds.reverse := fun {B' F A σ H E xs Xs} i sB fr => by
  have hH := fr.fh.seq (fr.bf.seq (sB.seq h))
  refine ⟨fun d ed => ?_, fun e => ⟨hH, by rw [e, List.length_reverse, r.len]⟩⟩
  obtain ⟨v, ev, rv⟩ := r.rev.get ed
  have hi : i < vs.length := by
    have := (List.getElem?_eq_some_iff.mp ev).1
    simpa using this
  refine ⟨⟨hH, hi⟩, fun x H2 ⟨e2, y⟩ => ?_⟩
  subst e2
  rw [ev] at y
  cases y
  exact ⟨F, A, fr.push ⟨rfl, _, rfl, rv.same (sB.trans fr.bf)⟩⟩
theorem itOk_range {lo : Int} {n : Nat} : ItOk K B (Itr lo n) (rngD lo n) := fun {B' F A σ H E xs Xs} i sB fr => by
  have hl : (rngD lo n).length = n := by simp [rngD]
  refine ⟨fun d ed => ?_, fun e => ?_⟩
  · have hi : i < n := by have := (List.getElem?_eq_some_iff.mp ed).1; omega
    refine ⟨hi, fun x H2 ⟨e2, y⟩ => ?_⟩
    subst e2 y
    have : d = .int (lo + i) := by
      unfold rngD at ed
      rw [List.getElem?_map, List.getElem?_range hi] at ed
      exact (Option.some.inj ed).symm
    subst this
    exact ⟨F, A, fr.push ⟨rfl, _, rfl, .int _⟩⟩
  · show n ≤ i
    omega
theorem xi_rev (hg : Gl X "reversed") (hm : X.mg "reversed" = none) (he : EX X e m f) (hs : starEach [e] X.env = [(false, eval e X.env)] := by rfl) : IX X tg (.Call (.Name "reversed" p) [e] [] pos) m (iRevP f) := pi_imp (pi_rev hg hm (pa_cons he pa_nil hs) hs) fun σ H R z => by
  obtain ⟨B, E, xs, Xs, ds, E', fr, cl, e, q⟩ := z
  obtain ⟨⟨s, E1⟩, e1, e⟩ := Option.bind_eq_some_iff.mp e
  obtain ⟨⟨d, E2⟩, e2, e⟩ := Option.bind_eq_some_iff.mp e
  refine ⟨B, E, xs, Xs, s, E1, fr, cl, e1, fun v H1 ⟨F, A, fr1⟩ => ?_⟩
  obtain ⟨F2, A2, fr2⟩ := fr1.frz0 e2
  simp only at e
  split at e
  · cases e
    obtain ⟨v', A1, ev, rfl, w, ew, r⟩ := fr2.ext (k := 0) rfl
    cases ev; cases ew
    cases r with
    | lst h1 h2 =>
      obtain ⟨A3, fr3⟩ := fr2.pop
      exact ⟨_, _, rfl, fr2.fh.seq h1, q F2 _ _ fr2.bf ⟨F2, A3, fr3.raise⟩ (itOk_rev h1 h2)⟩
  · cases e
theorem xi_range1 (hg : Gl X "range") (hm : X.mg "range" = none) (ha : AX X [e] m g) (hs : starEach [e] X.env = [(false, eval e X.env)] := by rfl) : IX X tg (.Call (.Name "range" p) [e] [] pos) m (iRng1P g) := pi_imp (pi_range1 hg hm ha hs) fun σ H R z => by
  obtain ⟨B, E, xs, Xs, ds, E', fr, cl, e, q⟩ := z
  obtain ⟨⟨rs, E1⟩, e1, e⟩ := Option.bind_eq_some_iff.mp e
  refine ⟨B, E, xs, Xs, rs, E1, fr, cl, e1, fun vs H1 hl ⟨F, A, fr1⟩ => ?_⟩
  simp only at e
  split at e
  · rename_i j ld
    split at e
    · rename_i hj
      cases e
      obtain ⟨r, A', fr2⟩ := fr1.looks hl ld
      obtain ⟨v, rfl, r'⟩ := r.one
      cases r'
      exact ⟨j, rfl, by omega, by omega, q B _ _ (Same.refl _) ⟨F, A', fr2⟩ itOk_range⟩
    · cases e
  · cases e
theorem xi_range2 (hg : Gl X "range") (hm : X.mg "range" = none) (ha : AX X [e, e2] m g) (hs : starEach [e, e2] X.env = [(false, eval e X.env), (false, eval e2 X.env)] := by rfl) (hs2 : starEach [e2] X.env = [(false, eval e2 X.env)] := by rfl) : IX X tg (.Call (.Name "range" p) [e, e2] [] pos) m (iRng2P g) := pi_imp (pi_range2 hg hm ha hs hs2) fun σ H R z => by
  obtain ⟨B, E, xs, Xs, ds, E', fr, cl, e, q⟩ := z
  obtain ⟨⟨rs, E1⟩, e1, e⟩ := Option.bind_eq_some_iff.mp e
  refine ⟨B, E, xs, Xs, rs, E1, fr, cl, e1, fun vs H1 hl ⟨F, A, fr1⟩ => ?_⟩
  simp only at e
  split at e
  · rename_i i j ld
    split at e
    · rename_i hj
      cases e
      obtain ⟨r, A', fr2⟩ := fr1.looks hl ld
      obtain ⟨v, u, rfl, r1, r2⟩ := r.two
      cases r1; cases r2
      exact ⟨i, j, rfl, by omega, q B _ _ (Same.refl _) ⟨F, A', fr2⟩ itOk_range⟩
    · cases e
  · cases e
end
noncomputable def pLoop (tg : PGv) (body : PSv) : List PyData → PSv
  | [], E => some (E, .nx)
  | d :: ds, E => ((tg d E).bind body).bind fun a => match a.2 with
    | .nx => pLoop tg body ds a.1
    | .ct => pLoop tg body ds a.1
    | .bk => some (a.1, .nx)
    | .rt r => some (a.1, .rt r)
noncomputable def pFor (it : PDv) (tg : PGv) (body : PSv) : PSv := fun E => (it E).bind fun a => pLoop tg body a.1 a.2
theorem xs_for {X : Cx} {tg iter : Expr} {body : List Stmt} {m : Bool} {it : PDv} {g : PGv} {b : PSv} {pos : Pos} (hp : PassesOwn (model X.prog X.w) X.A X.env X.xe) (hc : X.calm = true) (hi : IX X tg iter m it) (hg : GX X tg g) (hb : SSX X body b)
    (hs : ∀ x, foldedSetIterable iter X.env x = pure x := by intro _; rfl) : SX X (.For tg iter body [] pos) (pFor it g b) := ps_imp (ps_for hp hc hi hg hb hs) fun D σ H z => by
  obtain ⟨B, E, xs, Xs, E', fl, fr, cl, e, q⟩ := z
  obtain ⟨⟨ds, E1⟩, e1, e⟩ := Option.bind_eq_some_iff.mp e
  refine ⟨B, E, xs, Xs, ds, E1, fr, fun _ => Calm.nil cl, e1, fun B' J H1 hB fr1 ok => ?_⟩
  refine ⟨fun i mm σ' H' => mm = ds.length - i ∧ i ≤ ds.length ∧ ∃ Ei, pLoop g b (ds.drop i) Ei = some (E', fl) ∧ Frm X.K B' σ' H' Ei xs Xs, ⟨ds.length, by simp, Nat.zero_le _, E1, by simpa using e, fr1⟩, ?_⟩
  rintro i mm σ' H' ⟨rfl, hi, Ei, ei, F, A, fri⟩
  obtain ⟨go, stop⟩ := ok i (Same.refl _) fri
  by_cases hlt : i < ds.length
  · obtain ⟨d, ed⟩ : ∃ d, ds[i]? = some d := ⟨ds[i], List.getElem?_eq_getElem hlt⟩
    obtain ⟨g1, yl⟩ := go d ed
    have edr : ds.drop i = d :: ds.drop (i + 1) := by
      rw [List.drop_eq_getElem_cons hlt]
      congr 1
      exact Option.some.inj ((List.getElem?_eq_getElem hlt).symm.trans ed)
    rw [edr] at ei
    obtain ⟨⟨E2, f2⟩, e2, ei⟩ := Option.bind_eq_some_iff.mp ei
    obtain ⟨E3, e3, e2⟩ := Option.bind_eq_some_iff.mp e2
    refine .inr ⟨g1, fun σ2 H2 => ∃ Ej, pLoop g b (ds.drop (i + 1)) Ej = some (E', fl) ∧ Frm X.K B' σ2 H2 Ej xs Xs, fun σ2 H2 ⟨Ej, ej, frj⟩ => ⟨ds.length - (i + 1), by omega, rfl, hlt, Ej, ej, frj⟩, fun x H2 y => ?_⟩
    refine ⟨B', Ei, xs, Xs, d, E3, yl x H2 y, Still.nil cl, e3, fun σ3 H3 fr3 => ?_⟩
    refine ⟨B', E3, xs, Xs, E2, f2, fr3, cl, e2, ?_⟩
    cases f2 with
    | nx => exact fun σ4 H4 fr4 => ⟨E2, ei, fr4⟩
    | ct => exact fun σ4 H4 fr4 => ⟨E2, ei, fr4⟩
    | bk => cases ei; exact fun σ4 H4 fr4 => q _ _ (fr4.base hB)
    | rt r => cases ei; exact fun σ4 v H4 fr4 => q _ _ _ (fr4.base hB)
  · have e0 : i = ds.length := by omega
    refine .inl ⟨stop e0, ?_⟩
    rw [e0, List.drop_length] at ei
    cases ei
    exact q _ _ (Frm.base ⟨F, A, fri⟩ hB)
noncomputable def Clean : Sl → Bool
  | .sh d => flat d
  | .ow ds => flatA ds
  | .tx ps => ps.all fun p => match p with | .fl d => flat d | .ol ds => flatA ds
  | .od kvs => kvs.all fun p => flatA p.2
  | _ => false
noncomputable def startE (n : Nat) (ds : List PyData) : List Sl := ds.map .sh ++ List.replicate (n - ds.length) .no
noncomputable def outS (r : Sl) : Option Sl := if Clean r then some r else match r with
  | .sh d => some (.br d)
  | .ow ds => some (.br (.list ds))
  | .tx ps => some (.br (.tuple (ps.map Pt.val)))
  | .br d => some (if flat d then .sh d else .br d)
  | _ => none
noncomputable def runB (n : Nat) (g : PSv) : List PyData → Option Sl := fun ds => (g (startE n ds)).bind fun a => match a.2 with
  | .rt r => outS r
  | .nx => some (.sh .none)
  | _ => none
section
variable {K : PySem.W.Frag} {B F : Hp} {A : List Addr} {σ : SgT} {H : Hp} {E : List Sl} {v : V} {r : Sl}
theorem DlOk.cold {F H : Hp} (sF : Same F H) : ∀ {us : List (Key × V)} {kvs : List (Key × List PyData)} {A : List Addr}, (∀ p ∈ kvs, flatA p.2 = true) → DlOk K F H us kvs A → DlOk K (tups H) H us kvs A
  | [], [], A, _, h => h
  | p :: us, q :: kvs, A, c, h => by
    obtain ⟨l, vs, A', rfl, rfl, hl, hr, k⟩ := h
    exact ⟨l, vs, A', rfl, rfl, hl, (hr.same sF).cold (c q (List.mem_cons_self ..)), DlOk.cold sF (fun p hp => c p (List.mem_cons_of_mem _ hp)) k⟩
  | [], _ :: _, _, _, h => False.elim h
  | _ :: _, [], _, _, h => False.elim h
theorem PtsOk.cold {F H G : Hp} (sF : Same F H) (tG : ∀ {v : V} {d : PyData}, Rp K F v d → flat d = true → Rp K G v d) : ∀ {vs : List V} {ps : List Pt} {A : List Addr}, (∀ p ∈ ps, (match p with | .fl d => flat d | .ol ds => flatA ds) = true) → PtsOk K F H vs ps A → PtsOk K G H vs ps A
  | [], [], A, _, h => h
  | v :: vs, .fl d :: ps, A, c, h => ⟨tG h.1 (c (.fl d) (List.mem_cons_self ..)), PtsOk.cold sF tG (fun p hp => c p (List.mem_cons_of_mem _ hp)) h.2⟩
  | v :: vs, .ol ds :: ps, A, c, h => by
    obtain ⟨l, us, A', rfl, rfl, hl, hr, q⟩ := h
    refine ⟨l, us, A', rfl, rfl, hl, ?_, q.cold sF tG fun p hp => c p (List.mem_cons_of_mem _ hp)⟩
    have cd : flatA ds = true := c (.ol ds) (List.mem_cons_self ..)
    have key : ∀ {us : List V} {ds : List PyData}, RpA K F us ds → flatA ds = true → RpA K G us ds := fun {us ds} r c => by
      induction us generalizing ds with
      | nil => cases r; exact .nil
      | cons u us ih =>
        cases r with
        | cons r1 r2 =>
          simp only [flatA, Bool.and_eq_true] at c
          exact .cons (tG r1 c.1) (ih r2 c.2)
    exact key hr cd
  | [], _ :: _, _, _, h => False.elim h
  | _ :: _, [], _, _, h => False.elim h
theorem FrF.result (h : FrF K B F A σ H E [v] [r]) (c : Clean r = true) : Same B H ∧ ResOk K B H v r := by
  refine ⟨h.bf.trans h.fh, ?_⟩
  have nB : ∀ a, F a = none → B a = none := fun a e => h.bf.free e
  have cold : ∀ {v : V} {d : PyData}, Rp K F v d → flat d = true → Rp K (tups H) v d := fun r f => (r.same h.fh).cold f
  obtain ⟨v', A1, ev, hs⟩ := h.ext (k := 0) rfl
  cases ev
  obtain ⟨o, C0, C1, C2, eA, eo, hp, _⟩ := h.sl.at (k := 0) (s := r) rfl
  cases eo
  have sub : ∀ a ∈ C1, F a = none := fun a ha => h.fr a (by rw [eA]; simp [ha])
  have nd : C1.Nodup := by
    have := h.nd
    rw [eA] at this
    exact (List.nodup_append.mp (List.nodup_append.mp this).2.1).1
  cases r with
  | sh d => obtain ⟨_, w, ew, r⟩ := hp; cases ew; exact cold r c
  | ow ds =>
    obtain ⟨l, vs, el, rfl, hl, r⟩ := hp
    cases el
    exact ⟨l, vs, rfl, nB l (sub l (by simp)), hl, (r.same h.fh).cold c⟩
  | tx ps =>
    obtain ⟨t, vs, et, ht, r⟩ := hp
    cases et
    exact ⟨t, vs, C1, rfl, tups_of (h.fh _ _ ht) rfl, nd, fun a ha => nB a (sub a ha), r.cold h.fh cold (by simpa [Clean, List.all_eq_true] using c)⟩
  | no => cases c
  | od kvs =>
    obtain ⟨l, us, A', el, rfl, hl, r⟩ := hp
    cases el
    exact ⟨l, us, A', rfl, nd, fun a ha => nB a (sub a ha), hl, r.cold h.fh (by simpa [Clean, List.all_eq_true] using c)⟩
  | al i => cases c
  | br d => cases c
theorem FrF.resultO {r' : Sl} (h : FrF K B F A σ H E [v] [r]) (c : outS r = some r') : Same B H ∧ ResOk K B H v r' := by
  unfold outS at c
  split at c
  · rename_i hc
    cases c
    exact h.result hc
  · refine ⟨h.bf.trans h.fh, ?_⟩
    cases r with
    | sh d => cases c; exact (h.look0 (d := d) rfl).1
    | ow ds => cases c; exact (h.look0 (d := .list ds) rfl).1
    | tx ps => cases c; exact (h.look0 (d := .tuple (ps.map Pt.val)) rfl).1
    | br d =>
      have r := (h.look0 (d := d) rfl).1
      simp only at c
      split at c
      · rename_i hf
        cases c
        exact r.cold hf
      · cases c
        exact r
    | no => cases c
    | od kvs => cases c
    | al i => cases c
theorem startFr {N : List Str} {vs : List V} {ds : List PyData} (r : RpA K H vs ds) (hn : ds.length ≤ N.length) : FrF K H H [] (L2.start N vs) H (startE N.length ds) [] [] := by
  refine ⟨Same.refl _, Same.refl _, tups_same H, ?_, List.nodup_nil, fun a ha => (by cases ha), rfl, ?_⟩
  · have l := r.len
    unfold L2.start startE
    rw [l]
    generalize N.length - ds.length = k
    have base : ∀ τ : SgT, SAll (SlOk K H H τ) (List.replicate k none) (List.replicate k .no) [] := fun τ => by
      induction k with
      | zero => exact .nil
      | succ k ih => exact .cons (A := []) rfl ih
    have key : ∀ (τ : SgT) {us : List V} {es : List PyData}, RpA K H us es → SAll (SlOk K H H τ) (us.map some ++ List.replicate k none) (es.map .sh ++ List.replicate k .no) [] := fun τ us es r => by
      induction us generalizing es with
      | nil => cases r; exact base τ
      | cons u us ih =>
        cases r with
        | cons r1 r2 => exact .cons (A := []) ⟨rfl, _, rfl, r1⟩ (ih _ r2)
    exact key _ r
  · intro s hs
    unfold startE at hs
    rcases List.mem_append.mp hs with hs | hs
    · obtain ⟨d, _, rfl⟩ := List.mem_map.mp hs
      rfl
    · rw [(List.mem_replicate.mp hs).2]
      rfl
end
noncomputable def fnB (k n : Nat) (g : PSv) : List PyData → Option Sl := fun ds => if ds.length = k then runB n g ds else none
theorem ownP {P : Program} {w : World} {K : PySem.W.Frag} {mg : Str → Option Value} {base : Heap} {x : Str} {st : Stmt} {N ps : List Str} {k a n : Nat} {g : PSv} (D : Def K mg x st ps) (S : FnScope N ps (defScope st)) (hpa : ps.length = a) (hNn : N.length = n) (hps : a ≤ n)
    (hbody : ∀ (f : Addr) (cdv : Value) (A : Around) (outer : List Env) (s : Shared) (H : Hp) (E : XK), Room k (A.deeper (PyProof.Rows.envOfC x (defScope st) s.heap.objs.size f cdv)) →
      SSX (cxOf CX0 P w K mg base N x (defScope st) f cdv A outer s H E).nox (defBody st) g) : Own P w K mg base (k + 1) x ps (spP K (fnB a n g)) := by
  subst hpa hNn
  refine D.own S (fun vs H Q E h => ?_) (fun f cdv A outer s H vs Q E hr h => ?_)
  · obtain ⟨ds, r, e, rp, _⟩ := h
    unfold fnB at e
    split at e
    · rename_i hl
      rw [rp.len]; exact hl
    · cases e
  obtain ⟨ds, r, e, rp, q⟩ := h
  unfold fnB at e
  split at e
  · rename_i hl
    refine ⟨_, hbody f cdv A outer s H E hr, ?_⟩
    obtain ⟨⟨E', fl⟩, e1, e⟩ := Option.bind_eq_some_iff.mp e
    refine ⟨H, startE N.length ds, [], [], E', fl, ⟨H, [], startFr rp (by omega)⟩, rfl, e1, ?_⟩
    cases fl with
    | nx =>
      cases e
      rintro σ' H' ⟨F', A', fr'⟩
      exact q _ _ (fr'.bf.trans fr'.fh) .non
    | bk => cases e
    | ct => cases e
    | rt r' =>
      rintro σ' v H' ⟨F', A', fr'⟩
      obtain ⟨s1, s2⟩ := fr'.resultO e
      exact q v H' s1 s2
  · cases e
theorem fnP {P : Program} {w : World} {K : PySem.W.Frag} {mg : Str → Option Value} {base : Heap} {x : Str} {st : Stmt} {N ps : List Str} {k a n : Nat} {g : PSv} {f0 : Addr} {fd : FuncData} (D : Fun K x x st f0 fd) (S : FnScope N ps (defScope st)) (hpa : ps.length = a) (hNn : N.length = n) (hps : a ≤ n)
    (hbody : ∀ (cdv : Value) (A : Around) (outer : List Env) (s : Shared) (H : Hp) (E : XK), Room k (A.deeper (PyProof.Rows.envOfC x (defScope st) s.heap.objs.size f0 cdv)) →
      SSX (cxOf CX0 P w K mg base N x (defScope st) f0 cdv A outer s H E).nox (defBody st) g) : FnOk P w K mg base CX0 (k + 1) f0 fd ps (spP K (fnB a n g)) := by
  subst hpa hNn
  refine D.ok S (fun vs H Q E h => ?_) (fun cdv A outer s H vs Q E hr h => ?_)
  · obtain ⟨ds, r, e, rp, _⟩ := h
    unfold fnB at e
    split at e
    · rename_i hl
      rw [rp.len]; exact hl
    · cases e
  obtain ⟨ds, r, e, rp, q⟩ := h
  unfold fnB at e
  split at e
  · rename_i hl
    refine ⟨_, hbody cdv A outer s H E hr, ?_⟩
    obtain ⟨⟨E', fl⟩, e1, e⟩ := Option.bind_eq_some_iff.mp e
    refine ⟨H, startE N.length ds, [], [], E', fl, ⟨H, [], startFr rp (by omega)⟩, rfl, e1, ?_⟩
    cases fl with
    | nx =>
      cases e
      rintro σ' H' ⟨F', A', fr'⟩
      exact q _ _ (fr'.bf.trans fr'.fh) .non
    | bk => cases e
    | ct => cases e
    | rt r' =>
      rintro σ' v H' ⟨F', A', fr'⟩
      obtain ⟨s1, s2⟩ := fr'.resultO e
      exact q v H' s1 s2
  · cases e
theorem rpA_intsR {K : PySem.W.Frag} {H : Hp} : ∀ ns : List Int, RpA K H (ns.map V.int) (ns.map PyData.int)
  | [] => .nil
  | n :: ns => .cons (.int n) (rpA_intsR ns)
theorem law_sp {K : PySem.W.Frag} {H : Hp} {a : Addr} {ns : List Int} {c : List PyData → Option Sl} (e : c [.list (ns.map .int)] = some (.sh (.bool true))) (h : SqL K H a (ns.map V.int)) : spP K c [.ref a] H (fun v _ => v = .bl true) fun _ _ _ => False :=
  ⟨_, _, e, .cons (.lst h (rpA_intsR ns)) .nil, fun v H' _ r => by
    have r' : Rp K (tups H') v (.bool true) := r
    cases r'
    rfl⟩
end PL
namespace PL
open PySem L2 Nh
noncomputable def slotE (E : List Sl) : Option Nat → Sl
  | none => .no
  | some j => match (E[j]?).bind Sl.val with
    | some d => .sh d
    | none => .no
noncomputable def slotsE (js : List (Option Nat)) (E : List Sl) : List Sl := js.map (slotE E)
noncomputable def tYesP : PTv := fun E => some (true, E)
noncomputable def cLoop (tg : PGv) (cond : PTv) (elt : PEv) : List PyData → List Sl → Option (List PyData)
  | [], _ => some []
  | d :: ds, E => (tg d E).bind fun E1 => (cond E1).bind fun b => if b.1 then (elt b.2).bind fun c => (frz c.2 c.1).bind fun e => (cLoop tg cond elt ds e.2).map fun r => e.1 :: r else cLoop tg cond elt ds b.2
noncomputable def pComp (js : List (Option Nat)) (it : PDv) (tg : PGv) (cond : PTv) (elt : PEv) : PEv := fun E => (it E).bind fun a => (cLoop tg cond elt a.1 (slotsE js a.2)).bind fun ds => if flatA ds && decide (ds.length ≤ 1000000) then some (.ow ds, a.2) else none
section
variable {X : Cx} {elt target iter : Expr} {ifs : List Expr} {scope sc : Scope} {cl : List (Str × Addr)} {N : List Str} {pos : Pos} {js : List (Option Nat)} {K : PySem.W.Frag}
theorem slots_fr {B F : Hp} {A : List Addr} {σ : SgT} {H : Hp} {E : List Sl} {xs : List V} {Xs : List Sl} (fr : FrF K B F A σ H E xs Xs) (js : List (Option Nat)) : FrF K H H [] (slots js σ) H (slotsE js E) [] [] := by
  refine ⟨Same.refl _, Same.refl _, tups_same H, ?_, List.nodup_nil, fun a ha => (by cases ha), rfl, fun s hs => ?_⟩
  · have key : ∀ (τ : SgT) (ks : List (Option Nat)), SAll (SlOk K H H τ) (slots ks σ) (slotsE ks E) [] := fun τ ks => by
      induction ks with
      | nil => exact .nil
      | cons j ks ih =>
        refine .cons (A := []) ?_ ih
        cases j with
        | none => exact rfl
        | some j =>
          show SlOk K H H τ _ (match (E[j]?).bind Sl.val with | some d => .sh d | none => .no) []
          cases ej : E[j]? with
          | none => exact rfl
          | some s =>
            cases ev : s.val with
            | none => simp only [Option.bind_some, ev]; exact rfl
            | some d =>
              simp only [Option.bind_some, ev]
              obtain ⟨o, A1, eo, hs⟩ := fr.var ej
              obtain ⟨v, rfl, r, _⟩ := hs.val fr.fh ev
              refine ⟨rfl, v, ?_, r⟩
              show (σ[j]?).join = some v
              rw [eo]
              rfl
    exact key _ js
  · obtain ⟨j, _, rfl⟩ := List.mem_map.mp hs
    cases j with
    | none => rfl
    | some j =>
      simp only [slotE]
      split <;> rfl
theorem comp_core {m2 m3 : Bool} {tg : PGv} {cond : PTv} {el : PEv} {tt : TT} (htt : ∀ σ H Q, rt K m2 cond σ H Q → tt σ H Q) {B B' F : Hp} {A : List Addr} {σ : SgT} {H1 : Hp} {E1 : List Sl} {xs : List V} {Xs : List Sl} {ds rs : List PyData} {J : It} {Q : VK}
    (fr1 : FrF K B F A σ H1 E1 xs Xs) (B2 : Same B' H1) (ok : ItOk K B' J ds) (e2 : cLoop tg cond el ds (slotsE js E1) = some rs) (hc : flatA rs = true ∧ rs.length ≤ 1000000) (q : ∀ v H', Frm K B σ H' E1 (v :: xs) (.ow rs :: Xs) → Q v H') (l : Addr) (hl : H1 l = none) :
    ∃ W : Nat → Nat → SgT → Hp → Prop, (∃ m, W 0 m (slots js σ) (upd H1 l (.lst []))) ∧
  ∀ i m σ' H', W i m σ' H' → (J.stop i H' ∧ Q (.ref l) H') ∨ (J.go i H' ∧ ∃ N : SgT → Hp → Prop, (∀ σ' H', N σ' H' → ∃ m', m' < m ∧ W (i + 1) m' σ' H') ∧ ∀ x H2, J.yld i H' x H2 → rg K tg x σ' H2 fun σ3 H3 => tt σ3 H3 fun b H4 =>
    if b = true then rd K m3 el σ3 H4 fun y H5 => ∃ ys, H5 l = some (.lst ys) ∧ ys.length < sizeLine ∧ N σ3 (upd H5 l (.lst (ys ++ [y]))) else N σ3 H4) := by
  have fr0 := (slots_fr fr1 js).newl (ds := []) .nil hl
  refine ⟨fun i mm σ' H' => mm = ds.length - i ∧ i ≤ ds.length ∧ ∃ Ei acc rest, cLoop tg cond el (ds.drop i) Ei = some rest ∧ rs = acc ++ rest ∧ Frm K H1 σ' H' Ei [.ref l] [.ow acc], ⟨ds.length, by simp, Nat.zero_le _, _, [], rs, by simpa using e2, rfl, ⟨_, _, fr0⟩⟩, ?_⟩
  rintro i mm σ' H' ⟨rfl, hi, Ei, acc, rest, ei, er, F', A', fri⟩
  obtain ⟨go, stop⟩ := ok i B2 fri
  by_cases hlt : i < ds.length
  · obtain ⟨d, ed⟩ : ∃ d, ds[i]? = some d := ⟨ds[i], List.getElem?_eq_getElem hlt⟩
    obtain ⟨g1, yl⟩ := go d ed
    have edr : ds.drop i = d :: ds.drop (i + 1) := by
      rw [List.drop_eq_getElem_cons hlt]
      congr 1
      exact Option.some.inj ((List.getElem?_eq_getElem hlt).symm.trans ed)
    rw [edr] at ei
    obtain ⟨E3, e3, ei⟩ := Option.bind_eq_some_iff.mp ei
    obtain ⟨⟨b, E4⟩, e4, ei⟩ := Option.bind_eq_some_iff.mp ei
    refine .inr ⟨g1, fun σ2 H2 => ∃ Ej acc rest, cLoop tg cond el (ds.drop (i + 1)) Ej = some rest ∧ rs = acc ++ rest ∧ Frm K H1 σ2 H2 Ej [.ref l] [.ow acc], fun σ2 H2 ⟨Ej, ac, rt, ej, er, frj⟩ => ⟨ds.length - (i + 1), by omega, rfl, hlt, Ej, ac, rt, ej, er, frj⟩, fun x H2 y => ?_⟩
    have clm : Calm [Sl.ow acc] := Calm.cons (fun s hs => absurd hs (by simp)) rfl
    refine ⟨H1, Ei, [.ref l], [.ow acc], d, E3, yl x H2 y, (fun s hs => by rw [List.mem_singleton.mp hs]; rfl), e3, fun σ3 H3 fr3 => htt _ _ _ ?_⟩
    refine ⟨H1, E3, [.ref l], [.ow acc], b, E4, fr3, fun _ => clm, e4, fun H4 fr4 => ?_⟩
    cases b with
    | false =>
      rw [if_neg (by decide)]
      exact ⟨E4, acc, rest, ei, er, fr4⟩
    | true =>
      rw [if_pos rfl]
      obtain ⟨⟨s5, E5⟩, e5, ei⟩ := Option.bind_eq_some_iff.mp ei
      obtain ⟨⟨d6, E6⟩, e6, ei⟩ := Option.bind_eq_some_iff.mp ei
      obtain ⟨rest', e7, ei⟩ := Option.map_eq_some_iff.mp ei
      subst ei
      refine ⟨H1, E4, [.ref l], [.ow acc], s5, E5, fr4, fun _ => clm, e5, fun y5 H5 ⟨F5, A5, fr5⟩ => ?_⟩
      obtain ⟨F6, A6, fr6⟩ := fr5.frz0 e6
      obtain ⟨v', C1, ev, rfl, w, ew, ry⟩ := fr6.ext (k := 0) rfl
      cases ev; cases ew
      obtain ⟨A7, fr7⟩ := fr6.pop
      -- the list under way is the one part that owns
      obtain ⟨bf, fh, tf, sl, nd, frn, len, pl⟩ := fr7
      generalize hT : List.map some [V.ref l] ++ σ3 = T at sl
      generalize hS : [Sl.ow acc] ++ E6 = S at sl
      cases sl with
      | nil => cases hS
      | cons q0 r0 =>
        injection hT with h1 hT
        injection hS with h2 hS
        subst h1 h2 hT hS
        obtain ⟨l', us, el, rfl, hl5, ru⟩ := q0
        cases el
        have lu := ru.len
        refine ⟨us, hl5, small (by rw [er] at hc; simp at hc; omega), E6, acc ++ [d6], rest', e7, by rw [er]; simp, F6, _, bf, fun b o qb => ?_, ?_, .cons (A := [l]) ⟨l, us ++ [y5], rfl, rfl, upd_same, ru.snoc ry⟩ (r0.mono fun o s C hs hC qq => qq.stay (Same.refl _) (fun b hb => upd_ne fun z => ?_) fun z => ?_), nd, frn, rfl, pl⟩
        · have lF : F6 l = none := frn l (by simp)
          rw [upd_ne (fun z => by rw [z, lF] at qb; cases qb)]
          exact fh _ _ qb
        · rw [tups_upd hl5]; exact tf
        · have := hC b hb
          rw [z] at this
          exact (List.nodup_cons.mp nd).1 this
        · have := pl s hs
          cases s <;> simp [Sl.isAl, Sl.isBr] at this z
  · have e0 : i = ds.length := by omega
    refine .inl ⟨stop e0, ?_⟩
    rw [e0, List.drop_length] at ei
    cases ei
    rw [List.append_nil] at er
    subst er
    obtain ⟨g1, g2⟩ := fri.result hc.1
    exact q _ _ (fr1.told g1 g2)
theorem rd_comp {m m2 m3 : Bool} {it : PDv} {tg : PGv} {cond : PTv} {el : PEv} {tt : TT} (htt : ∀ σ H Q, rt K m2 cond σ H Q → tt σ H Q) {σ : SgT} {H : Hp} {Q : VK} (z : rd K m (pComp js it tg cond el) σ H Q) : tComp js (ri K m it) (rg K tg) tt (rd K m3 el) σ H Q := by
  obtain ⟨B, E, xs, Xs, res, E', fr, cl, e, q⟩ := z
  obtain ⟨⟨ds, E1⟩, e1, e⟩ := Option.bind_eq_some_iff.mp e
  obtain ⟨rs, e2, e⟩ := Option.bind_eq_some_iff.mp e
  simp only at e
  split at e
  · rename_i hc
    cases e
    simp only [Bool.and_eq_true, decide_eq_true_eq] at hc
    exact ⟨B, E, xs, Xs, ds, _, fr, cl, e1, fun B' J H1 hB ⟨F, A, fr1⟩ ok l hl => comp_core htt (fr1.base hB) (fr1.bf.trans fr1.fh) ok e2 hc q l hl⟩
  · cases e
theorem xe_comp0 {m m3 : Bool} {it : PDv} {tg : PGv} {el : PEv} (C : CompOk X scope sc cl N js) (hc : X.calm = true) (hi : IX X target iter m it) (hg : ∀ C s₀ H₀ fp, GX (X.comp sc cl N C s₀ H₀ fp) target tg) (he : ∀ C s₀ H₀ fp, EX (X.comp sc cl N C s₀ H₀ fp) elt m3 el)
    (hs : ∀ x, foldedSetIterable iter X.env x = pure x := by intro _; rfl) : EX X (.ListComp elt [⟨target, iter, [], 0⟩] scope pos) m (pComp js it tg tYesP el) :=
  pe_imp (pe_comp (g := rg X.K tg) (te := rd X.K m3 el) C hc hi hg (fun _ _ _ _ => pts_nil) he hs) fun σ H Q z => rd_comp (m2 := false) (fun σ H Q z => by
    obtain ⟨B, E, xs, Xs, b, E', fr, cl, e, q⟩ := z
    cases e
    exact q _ fr) z
noncomputable def iKeep (f : PEv) : PDv := fun E => (f E).bind fun a => match look a.2 a.1 with
  | some (.list ds) => some (ds, a.2)
  | _ => none
end
end PL
namespace PL
open PySem L2 Nh
noncomputable def keyOf : PyData → Option Key
  | .int i => some (.inl i)
  | .str x => some (.inr x)
  | _ => none
theorem keyOf_D {d : PyData} {k : Key} (h : keyOf d = some k) : d = keyD k := by
  cases d <;> simp [keyOf] at h <;> subst h <;> rfl
section
variable {X : Cx} {K : PySem.W.Frag} {B F : Hp} {σ : SgT} {H : Hp} {E : List Sl} {xs : List V} {Xs : List Sl}
theorem FrF.newd {p : Addr} {A : List Addr} (h : FrF K B F A σ H E xs Xs) (hp : H p = none) : FrF K B F (p :: A) σ (upd H p (.dK [])) E (.ref p :: xs) (.od [] :: Xs) := by
  have g : Same H (upd H p (.dK [])) := same_new hp _
  have nA := h.newA hp
  refine ⟨h.bf, h.fh.trans g, fun b o e => ?_, .cons (A := [p]) ⟨p, [], [], rfl, rfl, upd_same, rfl⟩ (h.sl.mono fun o s C _ hC q => q.stay (Same.refl _) (fun b hb => upd_ne fun z => nA (z ▸ hC b hb)) fun _ => g), List.nodup_cons.mpr ⟨nA, h.nd⟩, fun a ha => ?_, by simp [h.len], h.pl⟩
  · obtain ⟨e1, e2⟩ := Option.filter_eq_some_iff.mp e
    by_cases hb : b = p
    · subst hb; rw [upd_same] at e1; cases e1; cases e2
    · rw [upd_ne hb] at e1; exact h.tf b o (tups_of e1 e2)
  · rcases List.mem_cons.mp ha with z | z
    · subst z; exact h.fh.free hp
    · exact h.fr a z
theorem rp_key {v : V} {k : Key} (h : Rp K H v (keyD k)) : v = kV k := by
  cases k with
  | inl i => cases h; rfl
  | inr x => cases h; rfl
end
end PL
namespace PL
open PySem L2 Nh
section
variable {X : Cx} {elt target iter : Expr} {ifs : List Expr} {scope sc : Scope} {cl : List (Str × Addr)} {N : List Str} {pos : Pos} {js : List (Option Nat)} {K : PySem.W.Frag}
theorem SAll.split {P : Option V → Sl → List Addr → Prop} : ∀ {os os' : List (Option V)} {ss ss' : List Sl} {A : List Addr}, os.length = ss.length → SAll P (os ++ os') (ss ++ ss') A → ∃ A1 A2, A = A1 ++ A2 ∧ SAll P os ss A1 ∧ SAll P os' ss' A2
  | [], _, [], _, A, _, h => ⟨[], A, rfl, .nil, h⟩
  | o :: os, _, s :: ss, _, _, l, .cons h r => by
    obtain ⟨A1, A2, rfl, h1, h2⟩ := SAll.split (os := os) (ss := ss) (by simpa using l) r
    exact ⟨_, A2, by rw [List.append_assoc], .cons h h1, h2⟩
  | [], _, _ :: _, _, _, l, _ => by simp at l
  | _ :: _, _, [], _, _, l, _ => by simp at l
end
end PL
namespace PL
open PySem L2 Nh
noncomputable def dInts (ns : List Int) : PDv := fun E => some (ns.map .int, E)
end PL
namespace PL
open PySem L2 Nh
theorem atI_nat' {α : Type} (xs : List α) (k : Nat) : atI xs (k : Int) = xs[k]? := by
  unfold atI ixN
  rw [if_pos (by omega)]
  split
  · simp
  · rw [List.getElem?_eq_none (by omega)]; rfl
theorem atI_0 {α : Type} (a : α) (l : List α) : atI (a :: l) 0 = some a := atI_nat' (a :: l) 0
theorem atI_1 {α : Type} (a b : α) (l : List α) : atI (a :: b :: l) 1 = some b := atI_nat' (a :: b :: l) 1
theorem atI_2 {α : Type} (a b c : α) (l : List α) : atI (a :: b :: c :: l) 2 = some c := atI_nat' (a :: b :: c :: l) 2
theorem atI_lst {α : Type} (l : List α) (a : α) : atI (l ++ [a]) (-1) = some a := by
  unfold atI ixN
  rw [if_neg (by omega), if_pos (by simp; omega)]
  have e : (-1 + (((l ++ [a]).length : Nat) : Int)).toNat = l.length := by simp; omega
  rw [e]
  simp
theorem atI_nn {α : Type} {xs : List α} {i : Int} (h : 0 ≤ i) : atI xs i = xs[i.toNat]? := by
  have e : i = ((i.toNat : Nat) : Int) := by omega
  rw [e, atI_nat', Int.toNat_natCast]
theorem get_lst {α : Type} (l : List α) (a : α) : (l ++ [a])[(l ++ [a]).length - 1]? = some a := by simp
theorem emp_lst {α : Type} (l : List α) (a : α) : (l ++ [a]).isEmpty = false := by cases l <;> rfl
theorem flatA_append : ∀ (a b : List PyData), flatA (a ++ b) = (flatA a && flatA b)
  | [], b => by simp [flatA]
  | x :: a, b => by simp [flatA, flatA_append a b, Bool.and_assoc]
theorem flatA_all : ∀ {a : List PyData}, (∀ d ∈ a, flat d = true) → flatA a = true
  | [], _ => rfl
  | x :: a, h => by simp [flatA, h x (List.mem_cons_self ..), flatA_all fun d hd => h d (List.mem_cons_of_mem _ hd)]
theorem flatA_map {α : Type} {f : α → PyData} (h : ∀ a, flat (f a) = true) (l : List α) : flatA (l.map f) = true := flatA_all fun d hd => by
  obtain ⟨a, _, rfl⟩ := List.mem_map.mp hd
  exact h a
theorem flat_pc (p : Pc) : flat (pcD p) = true := rfl
theorem flatA_pc (c : List Pc) : flatA (c.map pcD) = true := flatA_map flat_pc c
theorem flatA_int (l : List Int) : flatA (l.map PyData.int) = true := flatA_map (fun _ => rfl) l
theorem flatA_str (l : List Str) : flatA (l.map PyData.str) = true := flatA_map (fun _ => rfl) l
noncomputable def cutL {α : Type} (l : List α) (lo hi : Option Int) : List α := (l.drop (HT.sIx l.length 0 lo)).take (HT.sIx l.length l.length hi - HT.sIx l.length 0 lo)
theorem cutD_map {α : Type} (f : α → PyData) (l : List α) (lo hi : Option Int) : cutD (l.map f) lo hi = (cutL l lo hi).map f := by
  unfold cutD cutL
  rw [List.length_map, List.map_take, List.map_drop]
theorem cutL_len {α : Type} (l : List α) (lo hi : Option Int) : (cutL l lo hi).length ≤ l.length := by
  unfold cutL
  rw [List.length_take, List.length_drop]
  omega
theorem cutL_most {α : Type} (l : List α) {m : Int} (h : 0 ≤ m) : ((cutL l none (some m)).length : Int) ≤ m := by
  unfold cutL
  have e : m = ((m.toNat : Nat) : Int) := by omega
  have z : HT.sIx l.length l.length (some m) ≤ m.toNat := by
    rw [e, HT.sIx_nat, Int.toNat_natCast]
    exact Nat.min_le_left _ _
  rw [List.length_take, List.length_drop]
  omega
theorem cutL_take {α : Type} (l : List α) {k : Int} (h0 : 0 ≤ k) : cutL l none (some k) = l.take k.toNat := by
  have e : k = ((k.toNat : Nat) : Int) := by omega
  have z : ∀ d, HT.sIx l.length d (some k) = min k.toNat l.length := fun d => by
    rw [e, HT.sIx_nat, Int.toNat_natCast]
  unfold cutL
  rw [z, HT.sIx_none, List.drop_zero, Nat.sub_zero]
  rcases Nat.le_total k.toNat l.length with h | h
  · rw [Nat.min_eq_left h]
  · rw [Nat.min_eq_right h, List.take_length, List.take_of_length_le h]
theorem cutL_drop {α : Type} (l : List α) {k : Int} (h0 : 0 ≤ k) : cutL l (some k) none = l.drop k.toNat := by
  have e : k = ((k.toNat : Nat) : Int) := by omega
  have z : ∀ d, HT.sIx l.length d (some k) = min k.toNat l.length := fun d => by
    rw [e, HT.sIx_nat, Int.toNat_natCast]
  unfold cutL
  rw [z, HT.sIx_none]
  rcases Nat.le_total k.toNat l.length with h | h
  · rw [Nat.min_eq_left h]
    exact List.take_of_length_le (by rw [List.length_drop]; omega)
  · rw [Nat.min_eq_right h, List.drop_length, List.drop_of_length_le h, List.take_nil]
theorem cutL_mem {α : Type} {l : List α} {lo hi : Option Int} {x : α} (h : x ∈ cutL l lo hi) : x ∈ l := List.mem_of_mem_drop (List.mem_of_mem_take h)
theorem rngD_succ (lo : Int) (n : Nat) : rngD lo (n + 1) = .int lo :: rngD (lo + 1) n := by
  unfold rngD
  rw [List.range_succ_eq_map, List.map_cons, List.map_map]
  simp only [Int.natCast_zero, Int.add_zero]
  congr 1
  refine List.map_congr_left fun k _ => ?_
  show PyData.int (lo + ((k + 1 : Nat) : Int)) = PyData.int (lo + 1 + (k : Int))
  congr 1
  omega
end PL
namespace L2
open PySem PySem.Spec PyProof.Rows
noncomputable def Its (x : Str) : It := ⟨fun i _ => i < x.cps.toList.length, fun i H v H' => H' = H ∧ ∃ c, x.cps.toList[i]? = some c ∧ v = .str ⟨#[c]⟩, fun i _ => i = x.cps.toList.length⟩
theorem turn_str {P : Program} {w : World} {K : PySem.W.Frag} {tg : Expr} {it : Addr} {T : String} {x : Str} {t : Tok} (hT : T = "str_ascii_iterator" ∨ T = "str_iterator") : Turn P w K tg (Its x) [it] it (fun i h => h.IsStrIter it T x t i) where
  mem := by simp
  obj := fun i h st b hb => by
    have e : b = it := by simpa using hb
    subst e
    obtain ⟨o, e, c, d⟩ := st
    exact ⟨o, e, fun v z => by rw [d] at z; cases z⟩
  keep := fun i h h' st k => let ⟨o, ho, r⟩ := st; ⟨o, k it (by simp) o ho, r⟩
  item := by
    intro X hP hw hK hc i pins s σ H E I hf st hg
    subst hP hw hK
    obtain ⟨f0, f1, f2, f3, f4, f5⟩ := hf it (by simp)
    have hi : i < x.cps.toList.length := hg
    have hx : x.cps[i]? = some (x.cps.toList[i]'hi) := by simp at hi; simp [hi]
    have fin : ∀ (h' : Heap), h'.IsStrIter it T x t (i + 1) → Heap.SameBut it s.heap h' → ∃ u, some (Value.str ⟨#[x.cps.toList[i]'hi]⟩ s.toks) = some u ∧
        wpAny (model X.prog X.w) X.A (letOwnedTupleGo tg (.ref it) u) (fun _ s2 => ∃ v H', Inv X pins σ H' s2 ∧ RelV v u ∧ (Its x).yld i H v H' ∧ s2.heap.IsStrIter it T x t (i + 1) ∧ ∀ b ∈ [it], H' b = none) E { s with heap := h', toks := s.toks + 1 } := fun h' st' sb => by
      have I1 : Inv X pins σ H { s with heap := h', toks := s.toks + 1 } := I.turned (t' := s.toks + 1) (fun b o hb e => (sb.2 b hb).trans e) f0 f1 f3 f4 f5
      obtain ⟨o, e, c, d⟩ := id st'
      exact ⟨_, rfl, go_of (s := { s with heap := h', toks := s.toks + 1 }) e c d (by rcases hT with rfl | rfl <;> decide) ⟨.str ⟨#[x.cps.toList[i]'hi]⟩, H, I1, ⟨_, rfl⟩, ⟨rfl, _, List.getElem?_eq_getElem hi, rfl⟩, st', fun b hb => (hf b hb).1⟩⟩
    rcases hT with rfl | rfl
    · exact wpAny_pyNext_ascii_item st hx fun h' st' sb => fin h' st' sb
    · exact wpAny_pyNext_wide_item st hx fun h' st' sb => fin h' st' sb
  done := by
    intro X hP hw hK hc i pins s σ H E I hf st hg
    subst hP hw hK
    obtain ⟨f0, f1, f2, f3, f4, f5⟩ := hf it (by simp)
    have hi : i = x.cps.toList.length := hg
    have hx : x.cps[i]? = none := by simp at hi; simp [hi]
    rcases hT with rfl | rfl
    · exact wpAny_pyNext_ascii_end (I.ok.hd hc) st hx fun h' eb => ⟨rfl, I.turned (t' := s.toks) (fun b o hb e => eb b o hb e) f0 f1 f3 f4 f5⟩
    · exact wpAny_pyNext_wide_end (I.ok.hd hc) st hx fun h' eb => ⟨rfl, I.turned (t' := s.toks) (fun b o hb e => eb b o hb e) f0 f1 f3 f4 f5⟩
  self := fun _ _ _ _ _ st h => by
    rcases hT with rfl | rfl
    · exact wpAny_pyIter_striter_ascii st h
    · exact wpAny_pyIter_striter_wide st h
noncomputable def iStr (tl : TE) : TI := fun σ H R => tl σ H fun v H1 => ∃ x, v = .str x ∧ R (Its x) H1
theorem pi_str {X : Cx} {tg l : Expr} {tl : TE} (hl : PE X l tl) : PI X tg l (iStr tl) := by
  intro pins s σ H R I h
  refine thn (hl pins s σ H _ I h) fun v s1 ⟨y, H1, I1, r1, q1⟩ => ?_
  obtain ⟨x, e, q⟩ := q1
  subst e
  obtain ⟨t, rfl⟩ := r1
  refine wpAny_pyIter_strU ?_
  refine ⟨s1.heap.objs.size, [s1.heap.objs.size], fun i h => h.IsStrIter s1.heap.objs.size (strIterType x) x t i, _, H1, rfl, I1.kept (t' := s1.toks) fun b o e => Heap.get?_push_of_some _ e, turn_str (t := t) ?_, ⟨_, Heap.get?_push_size _ rfl, rfl, rfl⟩, fun b hb => ?_, q⟩
  · unfold strIterType
    split
    · exact .inl rfl
    · exact .inr rfl
  · have e : b = s1.heap.objs.size := by simpa using hb
    subst e
    exact I1.fpOk (Nat.le_refl _) (I1.hok.fresh (Nat.le_refl _))
theorem PI.or {X : Cx} {tg l : Expr} {a b : TI} (h1 : PI X tg l a) (h2 : PI X tg l b) : PI X tg l (fun σ H R => a σ H R ∨ b σ H R) := by
  intro pins s σ H R I h
  rcases h with h | h
  · exact h1 pins s σ H R I h
  · exact h2 pins s σ H R I h
end L2
namespace PL
open PySem L2 Nh
noncomputable def zipD : List PyData → List PyData → List PyData
  | a :: as, b :: bs => .tuple [a, b] :: zipD as bs
  | _, _ => []
noncomputable def enumD : Nat → List PyData → List PyData
  | _, [] => []
  | k, a :: as => .tuple [.int k, a] :: enumD (k + 1) as
noncomputable def iZipP (f g : PEv) : PDv := fun E => (f E).bind fun a => (frz a.2 a.1).bind fun b => (g b.2).bind fun c => (frz c.2 c.1).bind fun d => match b.1, d.1 with
  | .list xs, .list ys => some (zipD xs ys, d.2)
  | _, _ => none
noncomputable def iEnumP (f : PEv) : PDv := fun E => (f E).bind fun a => (frz a.2 a.1).bind fun b => match b.1 with
  | .list xs => some (enumD 0 xs, b.2)
  | _ => none
noncomputable def signsD (x : Str) : List PyData := x.cps.toList.map fun c => .str ⟨#[c]⟩
noncomputable def iAny (f : PEv) : PDv := fun E => (f E).bind fun a => (frz a.2 a.1).bind fun b => match b.1 with
  | .list ds => some (ds, b.2)
  | .tuple ds => some (ds, b.2)
  | .str x => some (signsD x, b.2)
  | _ => none
section
variable {X : Cx} {K : PySem.W.Frag} {B : Hp}
theorem itOk_str {x : Str} : ItOk K B (Its x) (signsD x) := fun {B' F A σ H E xs Xs} i sB fr => by
  refine ⟨fun d ed => ?_, fun e => by show i = x.cps.toList.length; rw [e]; simp [signsD]⟩
  unfold signsD at ed
  rw [List.getElem?_map] at ed
  obtain ⟨c, ec, rfl⟩ := Option.map_eq_some_iff.mp ed
  refine ⟨(List.getElem?_eq_some_iff.mp ec).1, fun z H2 ⟨e1, c', e2, e3⟩ => ?_⟩
  rw [ec] at e2; cases e2
  subst e1 e3
  exact ⟨F, A, fr.push ⟨rfl, _, rfl, .str _⟩⟩
theorem itOk_tup {a : Addr} {vs : List V} {ds : List PyData} (h : SqT K B a vs) (r : RpA K B vs ds) : ItOk K B (Itt K a) ds := fun {B' F A σ H E xs Xs} i sB fr => by
  have hH := fr.fh.tup (fr.bf.tup (sB.tup h))
  refine ⟨fun d ed => ?_, fun e => ⟨vs, hH, by rw [e, r.len]; exact Nat.le_refl _⟩⟩
  obtain ⟨v, ev, rv⟩ := r.get ed
  refine ⟨⟨vs, v, hH, ev⟩, fun x H2 ⟨e2, y⟩ => ?_⟩
  subst e2
  have := y vs hH
  rw [ev] at this
  cases this
  exact ⟨F, A, fr.push ⟨rfl, _, rfl, rv.same (sB.trans fr.bf)⟩⟩
theorem xi_any {tg e : Expr} {m : Bool} {f : PEv} (he : EX X e m f) : IX X tg e m (iAny f) := pi_imp (PI.or (pi_list he) (PI.or (pi_tup he) (pi_str he))) fun σ H R z => by
  obtain ⟨B, E, xs, Xs, ds, E', fr, cl, e, q⟩ := z
  obtain ⟨⟨s, E1⟩, e1, e⟩ := Option.bind_eq_some_iff.mp e
  obtain ⟨⟨d, E2⟩, e2, e⟩ := Option.bind_eq_some_iff.mp e
  have key : ∀ (v : V) (H1 : Hp), Frm X.K B σ H1 E1 (v :: xs) (s :: Xs) → ∃ F2 A2 A3, Rp X.K F2 v d ∧ Same B F2 ∧ FrF X.K F2 F2 A3 σ H1 E2 xs Xs ∧ FrF X.K B F2 A2 σ H1 E2 (v :: xs) (.sh d :: Xs) := fun v H1 ⟨F, A, fr1⟩ => by
    obtain ⟨F2, A2, fr2⟩ := fr1.frz0 e2
    obtain ⟨v', A1, ev, rfl, w, ew, r⟩ := fr2.ext (k := 0) rfl
    cases ev; cases ew
    obtain ⟨A3, fr3⟩ := fr2.pop
    exact ⟨F2, A2, A3, r, fr2.bf, fr3.raise, fr2⟩
  simp only at e
  split at e
  · cases e
    refine .inl ⟨B, E, xs, Xs, s, E1, fr, cl, e1, fun v H1 fr1 => ?_⟩
    obtain ⟨F2, A2, A3, r, sb, fr3, fr2⟩ := key v H1 fr1
    cases r with
    | lst h1 h2 => exact ⟨_, rfl, ⟨_, fr2.fh.seq h1⟩, q F2 _ _ sb ⟨F2, A3, fr3⟩ (itOk_list h1 h2)⟩
  · cases e
    refine .inr (.inl ⟨B, E, xs, Xs, s, E1, fr, cl, e1, fun v H1 fr1 => ?_⟩)
    obtain ⟨F2, A2, A3, r, sb, fr3, fr2⟩ := key v H1 fr1
    cases r with
    | tup h1 h2 => exact ⟨_, rfl, ⟨_, fr2.fh.tup h1⟩, q F2 _ _ sb ⟨F2, A3, fr3⟩ (itOk_tup h1 h2)⟩
  · cases e
    refine .inr (.inr ⟨B, E, xs, Xs, s, E1, fr, cl, e1, fun v H1 fr1 => ?_⟩)
    obtain ⟨F2, A2, A3, r, sb, fr3, fr2⟩ := key v H1 fr1
    cases r
    exact ⟨_, rfl, q F2 _ _ sb ⟨F2, A3, fr3⟩ itOk_str⟩
  · cases e
end
noncomputable def pWhileN (c : PTv) (g : PSv) : Nat → PSv
  | 0, _ => none
  | n + 1, E => (c E).bind fun a => if a.1 then (g a.2).bind fun b => (match b.2 with
      | .nx => pWhileN c g n b.1
      | .ct => pWhileN c g n b.1
      | .bk => some (b.1, .nx)
      | .rt r => some (b.1, .rt r)) else some (a.2, .nx)
open Classical in
noncomputable def pWhile (c : PTv) (g : PSv) : PSv := fun E => if h : ∃ n r, pWhileN c g n E = some r then some h.choose_spec.choose else none
theorem pWhileN_mono (c : PTv) (g : PSv) : ∀ {n : Nat} {E : List Sl} {r : List Sl × Fl}, pWhileN c g n E = some r → pWhileN c g (n + 1) E = some r
  | n + 1, E, r, h => by
    obtain ⟨a, e1, h⟩ := Option.bind_eq_some_iff.mp h
    rw [pWhileN, e1, Option.bind_some]
    cases ha : a.1 with
    | false => rw [ha] at h; exact h
    | true =>
      rw [ha] at h
      obtain ⟨b, e2, h⟩ := Option.bind_eq_some_iff.mp h
      rw [if_pos rfl, e2, Option.bind_some]
      cases hb : b.2 with
      | nx => rw [hb] at h; exact pWhileN_mono c g h
      | ct => rw [hb] at h; exact pWhileN_mono c g h
      | bk => rw [hb] at h; exact h
      | rt r => rw [hb] at h; exact h
theorem pWhileN_le (c : PTv) (g : PSv) {n m : Nat} {E : List Sl} {r : List Sl × Fl} (h : pWhileN c g n E = some r) (hl : n ≤ m) : pWhileN c g m E = some r := by
  induction hl with
  | refl => exact h
  | step _ ih => exact pWhileN_mono c g ih
theorem pWhile_of {c : PTv} {g : PSv} {n : Nat} {E : List Sl} {r : List Sl × Fl} (h : pWhileN c g n E = some r) : pWhile c g E = some r := by
  have ex : ∃ n r, pWhileN c g n E = some r := ⟨n, r, h⟩
  unfold pWhile
  rw [dif_pos ex]
  have e := ex.choose_spec.choose_spec
  have a := pWhileN_le c g e (Nat.le_max_left ex.choose n)
  have b := pWhileN_le c g h (Nat.le_max_right ex.choose n)
  rw [a] at b
  exact b
theorem xs_while {X : Cx} {c : Expr} {body : List Stmt} {m : Bool} {t : PTv} {b : PSv} {pos : Pos} (hp : PassesOwn (model X.prog X.w) X.A X.env X.xe) (hc : TX X c m t) (hb : SSX X body b) : SX X (.While c body [] pos) (pWhile t b) := ps_imp (ps_while hp hc hb) fun D σ H z => by
  obtain ⟨B, E, xs, Xs, E', fl, fr, cl, e, q⟩ := z
  unfold pWhile at e
  split at e
  · rename_i ex
    have e0 := ex.choose_spec.choose_spec
    rw [Option.some.inj e] at e0
    refine ⟨fun n σ' H' => ∃ E1, pWhileN t b n E1 = some (E', fl) ∧ Frm X.K B σ' H' E1 xs Xs, ⟨_, E, e0, fr⟩, ?_⟩
    rintro n σ' H' ⟨E1, e1, fr1⟩
    cases n with
    | zero => cases e1
    | succ n =>
      obtain ⟨⟨b1, E2⟩, e2, e1⟩ := Option.bind_eq_some_iff.mp e1
      refine ⟨B, E1, xs, Xs, b1, E2, fr1, fun _ => Calm.nil cl, e2, fun H2 fr2 => ?_⟩
      cases b1 with
      | false =>
        cases e1
        exact (if_neg (by decide)).mpr (q _ _ fr2)
      | true =>
        refine (if_pos rfl).mpr ?_
        obtain ⟨⟨E3, f3⟩, e3, e1⟩ := Option.bind_eq_some_iff.mp e1
        refine ⟨fun σ4 H4 => ∃ E1, pWhileN t b n E1 = some (E', fl) ∧ Frm X.K B σ4 H4 E1 xs Xs, fun σ4 H4 z => ⟨n, Nat.lt_succ_self _, z⟩, B, E2, xs, Xs, E3, f3, fr2, cl, e3, ?_⟩
        cases f3 with
        | nx => exact fun σ4 H4 fr4 => ⟨E3, e1, fr4⟩
        | ct => exact fun σ4 H4 fr4 => ⟨E3, e1, fr4⟩
        | bk => cases e1; exact fun σ4 H4 fr4 => q _ _ fr4
        | rt r => cases e1; exact fun σ4 v H4 fr4 => q _ _ _ fr4
  · cases e
end PL
namespace PL
open PySem L2 Nh
inductive Cm where
  | lt | le | gt | ge
noncomputable def Cm.op : Cm → CmpOp
  | .lt => .Lt
  | .le => .LtE
  | .gt => .Gt
  | .ge => .GtE
noncomputable def Cm.i : Cm → Int → Int → Bool
  | .lt, i, j => decide (i < j)
  | .le, i, j => decide (i ≤ j)
  | .gt, i, j => decide (j < i)
  | .ge, i, j => decide (j ≤ i)
noncomputable def Cm.s : Cm → List Nat → List Nat → Bool
  | .lt, i, j => decide (i < j)
  | .le, i, j => !decide (j < i)
  | .gt, i, j => decide (j < i)
  | .ge, i, j => !decide (i < j)
noncomputable def dCmp (c : Cm) : PyData → PyData → Option PyData
  | .int i, .int j => some (.bool (c.i i j))
  | .str x, .str y => some (.bool (c.s x.cps.toList y.cps.toList))
  | _, _ => none
noncomputable def rCm (c : Cm) : R2 := fun x y H Q => (∃ i j, x = .int i ∧ y = .int j ∧ Q (.bl (c.i i j)) H) ∨ (∃ i j, x = .str i ∧ y = .str j ∧ Q (.bl (c.s i.cps.toList j.cps.toList)) H)
section
variable {X : Cx} {a b c : Expr} {m1 m2 m3 : Bool} {f g h : PEv} {pos : Pos} {K : PySem.W.Frag}
theorem op_cm (c : Cm) : OpR X (compareOp c.op) (rCm c) := by
  cases c with
  | lt => exact OpR.or op_lt op_lt_str
  | le => exact OpR.or op_le (fun pins s σ H x y v u Q I rx ry h => by
      obtain ⟨i, j, rfl, rfl, q⟩ := h
      obtain ⟨t, rfl⟩ := rx
      obtain ⟨t', rfl⟩ := ry
      exact PySem.P.le_str (fin_bl I q rfl))
  | gt => exact OpR.or op_gt (fun pins s σ H x y v u Q I rx ry h => by
      obtain ⟨i, j, rfl, rfl, q⟩ := h
      obtain ⟨t, rfl⟩ := rx
      obtain ⟨t', rfl⟩ := ry
      exact PySem.P.gt_str (fin_bl I q rfl))
  | ge => exact OpR.or op_ge (fun pins s σ H x y v u Q I rx ry h => by
      obtain ⟨i, j, rfl, rfl, q⟩ := h
      obtain ⟨t, rfl⟩ := rx
      obtain ⟨t', rfl⟩ := ry
      exact PySem.P.ge_str (fin_bl I q rfl))
theorem cm_ok (c : Cm) : ScOk K (rCm c) (dCmp c) := fun d1 d2 d v1 v2 H Q e r1 r2 => by
  unfold dCmp at e
  split at e
  · cases e; cases r1; cases r2
    exact ⟨_, rfl, fun q => .inl ⟨_, _, rfl, rfl, q⟩⟩
  · cases e; cases r1; cases r2
    exact ⟨_, rfl, fun q => .inr ⟨_, _, rfl, rfl, q⟩⟩
  · cases e
theorem nomark_cm (c : Cm) (b : Expr) : behindInMarks c.op b = false := by cases c <;> exact nomark _
theorem xt_cm (c : Cm) (ha : EX X a m1 f) (hb : EX X b m2 g) : TX X (.Compare a [c.op] [b] pos) (m1 || m2) (isB (pBin (sc2 (dCmp c)) m2 f g)) := xt_cmp (op_cm c) (sc2_ok (cm_ok c)) ha hb (nomark_cm c b)
theorem xt_ch (c1 c2 : Cm) (ha : EX X a m1 f) (hb : EX X b m2 g) (hc : EX X c m3 h) (hm : lastMarks [c1.op, c2.op] [b, c] = false := by with_unfolding_all rfl) : TX X (.Compare a [c1.op, c2.op] [b, c] pos) (m1 || (m2 || m3)) (isB (pChain (dCmp c1) (dCmp c2) m2 m3 f g h)) := xt_chain (op_cm c1) (op_cm c2) (cm_ok c1) (cm_ok c2) ha hb hc hm
noncomputable def pShr : P2 := sc2 (iOp (fun _ j => decide (0 ≤ j)) fun i j => .int (i / 2 ^ j.toNat))
noncomputable def pShl : P2 := sc2 (iOp (fun i j => decide (0 ≤ j ∧ j ≤ 1000000 ∧ -(2 ^ 64) < i ∧ i < 2 ^ 64)) fun i j => .int (i * 2 ^ j.toNat))
noncomputable def pAnd : P2 := sc2 (iOp (fun _ _ => true) fun i j => .int (Builtin.bitAnd i j))
noncomputable def isInt : PyData → Option Int
  | .int x => some x
  | _ => none
noncomputable def strsOf : List PyData → Option (List Str)
  | [] => some []
  | .str x :: ds => (strsOf ds).map fun xs => x :: xs
  | _ :: _ => none
noncomputable def intsOf : List PyData → Option (List Int)
  | [] => some []
  | .int x :: ds => (intsOf ds).map fun xs => x :: xs
  | _ :: _ => none
theorem strsOf_eq : ∀ {ds : List PyData} {xs : List Str}, strsOf ds = some xs → ds = xs.map .str
  | [], xs, h => by cases h; rfl
  | d :: ds, xs, h => by
    cases d with
    | str x =>
      obtain ⟨ys, e, rfl⟩ := Option.map_eq_some_iff.mp h
      rw [strsOf_eq e]; rfl
    | _ => cases h
theorem rpA_strs {H : Hp} : ∀ {vs : List V} {xs : List Str}, RpA K H vs (xs.map .str) → vs = xs.map .str
  | [], [], _ => rfl
  | v :: vs, x :: xs, .cons h r => by cases h; rw [rpA_strs r]; rfl
noncomputable def dIn : PyData → PyData → Option Bool
  | .str x, .str y => some (!(Builtin.Str.occurrences y x 0 y.length 1).isEmpty)
  | .str x, .list ds => (strsOf ds).map fun xs => xs.contains x
  | .str x, .tuple ds => (strsOf ds).map fun xs => xs.contains x
  | .int x, .list ds => (intsOf ds).map fun xs => xs.contains x
  | .int x, .tuple ds => (intsOf ds).map fun xs => xs.contains x
  | _, _ => none
noncomputable def pIn (neg : Bool) : P2 := sc2 fun d1 d2 => (dIn d1 d2).map fun b => .bool (if neg then !b else b)
end
noncomputable def dInt : List PyData → Option PyData
  | [.int i] => some (.int i)
  | [.bool b] => some (.int (if b then 1 else 0))
  | _ => none
noncomputable def dJoin (x : Str) : PyData → Option PyData
  | .list ds => (strsOf ds).bind fun ys => if (ys.map (·.length)).sum + ys.length * x.length ≤ 1000000 then some (.str (Txt.join x ys)) else none
  | .tuple ds => (strsOf ds).bind fun ys => if (ys.map (·.length)).sum + ys.length * x.length ≤ 1000000 then some (.str (Txt.join x ys)) else none
  | _ => none
theorem vals_strs {ys : List Str} : ∀ {us : List Value}, Vals (ys.map V.str) us → PyProof.Rows.StrsAre us ys := by
  induction ys with
  | nil => intro us h; cases h; exact .nil
  | cons y ys ih =>
    intro us h
    cases h with
    | cons h r =>
      obtain ⟨t, rfl⟩ := h
      exact .cons y t (ih r)
noncomputable def rJoin (K : PySem.W.Frag) : V → List V → Hp → VK → Prop := fun x vs H Q => ∃ z p ys, x = .str z ∧ vs = [.ref p] ∧ (SqL K H p (ys.map .str) ∨ SqT K H p (ys.map .str)) ∧ (ys.map (·.length)).sum + ys.length * z.length ≤ 16777216 ∧ Q (.str (Txt.join z ys)) H
theorem mt_join {X : Cx} : MtR X "str.join" (rJoin X.K) := by
  intro pins s σ H x vs v us Q I rx rv h
  obtain ⟨z, p, ys, rfl, rfl, hq, hl, q⟩ := h
  obtain ⟨t, rfl⟩ := rx
  obtain ⟨u, rfl, ru⟩ := rv.one
  cases ru
  rcases hq with hq | hq
  · obtain ⟨its, r, pl, _⟩ := I.list hq
    exact PyProof.Rows.join_list pl.isList (by simpa using vals_strs r) hl fun t' k => ⟨.str _, H, I.tok _, ⟨_, rfl⟩, q⟩
  · obtain ⟨its, r, pl, _⟩ := I.tuple hq
    exact PyProof.Rows.join_tuple pl (by simpa using vals_strs r) hl fun t' k => ⟨.str _, H, I.tok _, ⟨_, rfl⟩, q⟩
section
variable {X : Cx} {e o : Expr} {m1 m2 : Bool} {g : PAv} {f h : PEv} {p pos apos cpos : Pos} {K : PySem.W.Frag}
noncomputable def pJoin (x : Str) (f : PEv) : PEv := pUn (dJoin x) f
theorem xe_join {x : Str} {j : Nat} {sp : Pos} (he : EX X e m1 f) (hs : starEach [e] X.env = [(false, eval e X.env)] := by rfl) (hbase : attributeBase (.Constant (.str x) j sp) "join" X.env (eval (.Constant (.str x) j sp) X.env) = eval (.Constant (.str x) j sp) X.env := by rfl)
    (hfew : ((backTo cpos (starEach [e] X.env)).all (fun x => !x.1) && (backToKw cpos (keywordEach [] X.env)).all (fun x => x.1.isSome)
      && decide (([e] : List Expr).length + ([] : List Keyword).length + (if ([] : List Keyword).isEmpty then 0 else 1) < 30)) = true := by rfl) (hline : (apos.endLine == cpos.line) = true := by rfl) :
    EX X (.Call (.Attribute (.Constant (.str x) j sp) "join" apos) [e] [] cpos) m1 (pJoin x f) := by
  refine pe_imp (pe_bm PySem.F.plainAttrs_str PySem.F.slot_str_join PySem.F.type_str_join mt_join (pe_str) (pa_cons he pa_nil hs) hbase hfew hline hs rfl) fun σ H Q z => ?_
  obtain ⟨B, E, xs, Xs, res, E', fr, c, e, q⟩ := z
  obtain ⟨⟨s1, E1⟩, e1, e⟩ := Option.bind_eq_some_iff.mp e
  obtain ⟨d1, e2, e⟩ := Option.bind_eq_some_iff.mp e
  obtain ⟨d, e3, e⟩ := Option.map_eq_some_iff.mp e
  cases e
  refine ⟨rfl, B, E, xs, Xs, s1, E1, fr, c, e1, fun v1 H1 ⟨F, A, fr1⟩ => ?_⟩
  have r := (fr1.look0 e2).1
  obtain ⟨A', fr2⟩ := fr1.pop
  unfold dJoin at e3
  split at e3
  · obtain ⟨ys, ey, e3⟩ := Option.bind_eq_some_iff.mp e3
    split at e3
    · rename_i hl
      cases e3
      cases r with
      | lst h1 h2 =>
        rw [strsOf_eq ey] at h2
        rw [rpA_strs h2] at h1
        exact ⟨x, _, ys, rfl, rfl, .inl h1, by omega, q _ _ ⟨F, A', fr2.push ⟨rfl, _, rfl, .str _⟩⟩⟩
    · cases e3
  · obtain ⟨ys, ey, e3⟩ := Option.bind_eq_some_iff.mp e3
    split at e3
    · rename_i hl
      cases e3
      cases r with
      | tup h1 h2 =>
        rw [strsOf_eq ey] at h2
        rw [rpA_strs h2] at h1
        exact ⟨x, _, ys, rfl, rfl, .inr h1, by omega, q _ _ ⟨F, A', fr2.push ⟨rfl, _, rfl, .str _⟩⟩⟩
    · cases e3
  · cases e3
end
end PL
namespace PL
open PySem L2 Nh
theorem sl_str {X : Cx} : SlR X (fun x lo hi H Q => ∃ z, x = .str z ∧ z.length ≤ sizeLine ∧ Q (.str (Txt.slice z lo hi)) H) := by
  intro pins s σ H x v vl vu lo hi sl Q I rx hs pl pu h
  obtain ⟨z, rfl, hz, q⟩ := h
  obtain ⟨t, rfl⟩ := rx
  cases pl with
  | none =>
    cases pu with
    | none => exact ⟨"str", _, PySem.F.slot_str_getitem.lookup, typeIs_str _ _ _, wpAny_getItem_str_slice (l := none) (u := none) (st := none) hs rfl (post_val_or_str ⟨Nat.le_trans (Txt.slice_le z _ _) hz, fun t' k => ⟨.str _, H, I.tok _, ⟨_, rfl⟩, q⟩⟩)⟩
    | int j uj => exact ⟨"str", _, PySem.F.slot_str_getitem.lookup, typeIs_str _ _ _, wpAny_getItem_str_slice (l := none) (u := some (j, uj)) (st := none) hs rfl (post_val_or_str ⟨Nat.le_trans (Txt.slice_le z _ _) hz, fun t' k => ⟨.str _, H, I.tok _, ⟨_, rfl⟩, q⟩⟩)⟩
  | int i ui =>
    cases pu with
    | none => exact ⟨"str", _, PySem.F.slot_str_getitem.lookup, typeIs_str _ _ _, wpAny_getItem_str_slice (l := some (i, ui)) (u := none) (st := none) hs rfl (post_val_or_str ⟨Nat.le_trans (Txt.slice_le z _ _) hz, fun t' k => ⟨.str _, H, I.tok _, ⟨_, rfl⟩, q⟩⟩)⟩
    | int j uj => exact ⟨"str", _, PySem.F.slot_str_getitem.lookup, typeIs_str _ _ _, wpAny_getItem_str_slice (l := some (i, ui)) (u := some (j, uj)) (st := none) hs rfl (post_val_or_str ⟨Nat.le_trans (Txt.slice_le z _ _) hz, fun t' k => ⟨.str _, H, I.tok _, ⟨_, rfl⟩, q⟩⟩)⟩
noncomputable def pCut (m2 : Bool) (f : PEv) (lo hi : POv) : PEv := fun E => (f E).bind fun a => if m2 && a.1.isBr then none else (lo a.2).bind fun b => (hi b.2).bind fun c => match look c.2 a.1 with
  | some (.list ds) => if !hot c.2 a.1 || flatA (cutD ds b.1 c.1) then some (.ow (cutD ds b.1 c.1), c.2) else none
  | some (.str z) => if z.length ≤ 1000000 then some (.sh (.str (Txt.slice z b.1 c.1)), c.2) else none
  | _ => none
theorem xe_cut {X : Cx} {e : Expr} {lo hi : Option Expr} {m1 m2 m3 : Bool} {f : PEv} {g h : POv} {pos p2 : Pos} (he : EX X e m1 f) (hl : OX X lo m2 g) (hh : OX X hi m3 h) : EX X (.Subscript e (.Slice lo hi none p2) pos) (m1 || (m2 || m3)) (pCut (m2 || m3) f g h) := by
  refine pe_imp (pe_slice (SlR.or sl_list sl_str) he hl hh) fun σ H Q z => ?_
  obtain ⟨B, E, xs, Xs, res, E', fr, cl, e, q⟩ := z
  obtain ⟨⟨s, E1⟩, e1, e⟩ := Option.bind_eq_some_iff.mp e
  by_cases hb : ((m2 || m3) && s.isBr) = true
  · rw [if_pos hb] at e; cases e
  rw [if_neg hb] at e
  have n1 : (m2 || m3) = true → s.isBr = false := fun z => by
    cases hs : s.isBr with
    | false => rfl
    | true => exact absurd (by rw [z, hs]; rfl) hb
  obtain ⟨⟨l, E2⟩, e2, e⟩ := Option.bind_eq_some_iff.mp e
  obtain ⟨⟨u, E3⟩, e3, e⟩ := Option.bind_eq_some_iff.mp e
  refine ⟨B, E, xs, Xs, s, E1, fr, fun z => cl (by simp [z]), e1, fun v1 H1 fr1 => ?_⟩
  refine ⟨B, E1, v1 :: xs, s :: Xs, l, E2, fr1, fun z => Calm.cons (cl (by simp [z])) (n1 (by simp [z])), e2, fun H2 fr2 => ?_⟩
  refine ⟨B, E2, v1 :: xs, s :: Xs, u, E3, fr2, fun z => Calm.cons (cl (by simp [z])) (n1 (by simp [z])), e3, fun H3 ⟨F, A, fr3⟩ => ?_⟩
  simp only at e
  split at e
  · rename_i ds ld
    split at e
    · rename_i hc
      cases e
      obtain ⟨v, ev, r, f0⟩ := fr3.look (k := 0) rfl ld
      cases ev
      obtain ⟨A', fr4⟩ := fr3.pop
      cases hh : hot E' s with
      | false =>
        obtain ⟨a, vs, rfl, h1, h2⟩ := f0 hh
        exact .inl ⟨a, vs, rfl, h1, fun p hp => q _ _ ⟨F, _, fr4.newl (h2.cut l u) hp⟩⟩
      | true =>
        rw [hh] at hc
        cases r with
        | lst h1 h2 => exact .inl ⟨_, _, rfl, h1, fun p hp => q _ _ ⟨F, _, fr4.newl (fr3.coldA (h2.cut l u) (by simpa using hc)) hp⟩⟩
    · cases e
  · rename_i z ld
    split at e
    · rename_i hc
      cases e
      have r := (fr3.look0 ld).1
      cases r
      obtain ⟨A', fr4⟩ := fr3.pop
      exact .inr ⟨_, rfl, smallE hc, q _ _ ⟨F, A', fr4.push ⟨rfl, _, rfl, .str _⟩⟩⟩
    · cases e
  · cases e
noncomputable def pExtend (i : Nat) (f : PEv) : PEv := fun E => match E[i]? with
  | some (.ow _) => (f E).bind fun a => match a.1, a.2[i]? with
    | .ow es, some (.ow ds) => if ds.length + es.length ≤ 1000000 then some (.sh .none, a.2.set i (.ow (ds ++ es))) else none
    | _, _ => none
  | _ => none
noncomputable def pReverse (i : Nat) : PEv := fun E => match E[i]? with
  | some (.ow ds) => some (.sh .none, E.set i (.ow ds.reverse))
  | _ => none
noncomputable def pCallIO (i : Nat) (c : List PyData → List PyData → Option (Sl × List PyData)) (g : PAv) : PEv := fun E => match E[i]? with
  | some (.ow _) => (g E).bind fun a => match a.2[i]? with
    | some (.ow ds0) => if flatA ds0 then (lookA a.2 a.1).bind fun ds => (c ds0 ds).map fun r => (r.1, a.2.set i (.ow r.2)) else none
    | _ => none
  | _ => none
section
variable {K : PySem.W.Frag} {B F : Hp} {A : List Addr} {σ : SgT} {H H' : Hp} {E : List Sl} {xs : List V} {Xs : List Sl}
theorem FrF.mutGrow {i : Nat} {ds ds' : List PyData} {l : Addr} {us us' : List V} (h : FrF K B F A σ H E xs Xs) (e : E[i]? = some (.ow ds)) (c : Calm Xs) (el : σ[i]? = some (some (.ref l))) (hl : H l = some (.lst us)) (sb : SameBut l H H') (hl' : H' l = some (.lst us')) (r : RpA K (tups H') us' ds') :
    ∃ F', FrF K B F' A σ H' (E.set i (.ow ds')) xs Xs := by
  have g : Same H (upd H' l (.lst us)) := fun b o q => by
    by_cases eb : b = l
    · subst eb; rw [upd_same, ← hl]; exact q
    · rw [upd_ne eb]; exact sb b o eb q
  have h1 := h.grow g
  obtain ⟨l1, us1, el1, hl1, r1, put⟩ := h1.mut e c
  rw [el] at el1
  cases el1
  have r2 : RpA K _ us' ds' := RpA.same h1.tf (by rw [tups_upd hl']; exact r)
  have h2 := put us' ds' r2
  have eH : upd (upd H' l (.lst us)) l (.lst us') = H' := by
    rw [upd_upd]
    funext b
    by_cases eb : b = l
    · subst eb; rw [upd_same, hl']
    · rw [upd_ne eb]
  rw [eH] at h2
  exact ⟨_, h2⟩
end
structure Bn (mg : Str → Option Value) : Prop where
  len : mg "len" = none
  range : mg "range" = none
  abs : mg "abs" = none
  min : mg "min" = none
  max : mg "max" = none
  reversed : mg "reversed" = none
  enumerate : mg "enumerate" = none
  isinstance : mg "isinstance" = none
  list : mg "list" = none
  tuple : mg "tuple" = none
  str : mg "str" = none
  int : mg "int" = none
  bool : mg "bool" = none
  sorted : mg "sorted" = none
  zip : mg "zip" = none
  sum : mg "sum" = none
  any : mg "any" = none
  all : mg "all" = none
  set : mg "set" = none
  dict : mg "dict" = none
theorem bn_mk {K : PySem.W.Frag} {h : Heap} {mg : Str → Option Value} (X : K.In h) (G : h.Ns mainGlobals mg)
    (z1 : PySem.W.nsIn K mainGlobals "len" = some none) (z2 : PySem.W.nsIn K mainGlobals "range" = some none) (z3 : PySem.W.nsIn K mainGlobals "abs" = some none) (z4 : PySem.W.nsIn K mainGlobals "min" = some none) (z5 : PySem.W.nsIn K mainGlobals "max" = some none) (z6 : PySem.W.nsIn K mainGlobals "reversed" = some none) (z7 : PySem.W.nsIn K mainGlobals "enumerate" = some none) (z8 : PySem.W.nsIn K mainGlobals "isinstance" = some none) (z9 : PySem.W.nsIn K mainGlobals "list" = some none) (z10 : PySem.W.nsIn K mainGlobals "tuple" = some none) (z11 : PySem.W.nsIn K mainGlobals "str" = some none) (z12 : PySem.W.nsIn K mainGlobals "int" = some none) (z13 : PySem.W.nsIn K mainGlobals "bool" = some none) (z14 : PySem.W.nsIn K mainGlobals "sorted" = some none) (z15 : PySem.W.nsIn K mainGlobals "zip" = some none) (z16 : PySem.W.nsIn K mainGlobals "sum" = some none) (z17 : PySem.W.nsIn K mainGlobals "any" = some none) (z18 : PySem.W.nsIn K mainGlobals "all" = some none) (z19 : PySem.W.nsIn K mainGlobals "set" = some none) (z20 : PySem.W.nsIn K mainGlobals "dict" = some none) : Bn mg :=
  ⟨PySem.W.mg_none_of X G z1, PySem.W.mg_none_of X G z2, PySem.W.mg_none_of X G z3, PySem.W.mg_none_of X G z4, PySem.W.mg_none_of X G z5, PySem.W.mg_none_of X G z6, PySem.W.mg_none_of X G z7, PySem.W.mg_none_of X G z8, PySem.W.mg_none_of X G z9, PySem.W.mg_none_of X G z10, PySem.W.mg_none_of X G z11, PySem.W.mg_none_of X G z12, PySem.W.mg_none_of X G z13, PySem.W.mg_none_of X G z14, PySem.W.mg_none_of X G z15, PySem.W.mg_none_of X G z16, PySem.W.mg_none_of X G z17, PySem.W.mg_none_of X G z18, PySem.W.mg_none_of X G z19, PySem.W.mg_none_of X G z20⟩
end PL
namespace PL
open PySem L2 Nh
noncomputable abbrev PKv := List Sl → Option (List Sl × Bool)
end PL
namespace PL
open PySem L2 Nh
noncomputable def ptSl : Pt → Sl
  | .fl d => .sh d
  | .ol ds => .ow ds
section
variable {K : PySem.W.Frag} {F H : Hp}
theorem PtsOk.append : ∀ {us : List V} {ts : List Pt} {A : List Addr} {us' : List V} {ts' : List Pt} {A' : List Addr}, PtsOk K F H us ts A → PtsOk K F H us' ts' A' → PtsOk K F H (us ++ us') (ts ++ ts') (A ++ A')
  | [], [], A, _, _, _, h, h' => by rw [show A = [] from h]; exact h'
  | v :: vs, .fl d :: ps, A, _, _, _, h, h' => ⟨h.1, PtsOk.append h.2 h'⟩
  | v :: vs, .ol ds :: ps, A, _, _, _, h, h' => by
    obtain ⟨l, us, A1, rfl, rfl, hl, hr, q⟩ := h
    exact ⟨l, us, _, rfl, rfl, hl, hr, q.append h'⟩
  | [], _ :: _, _, _, _, _, h, _ => False.elim h
  | _ :: _, [], _, _, _, _, h, _ => False.elim h
theorem PtsOk.rev : ∀ {us : List V} {ts : List Pt} {A : List Addr}, PtsOk K F H us ts A → PtsOk K F H us.reverse ts.reverse A.reverse
  | [], [], A, h => by rw [show A = [] from h]; exact rfl
  | v :: vs, .fl d :: ps, A, h => by
    rw [List.reverse_cons, List.reverse_cons, ← List.append_nil A.reverse]
    exact (PtsOk.rev h.2).append (us' := [v]) (ts' := [.fl d]) (A' := []) ⟨h.1, rfl⟩
  | v :: vs, .ol ds :: ps, A, h => by
    obtain ⟨l, us, A1, rfl, rfl, hl, hr, q⟩ := h
    rw [List.reverse_cons, List.reverse_cons, List.reverse_cons]
    exact q.rev.append (us' := [.ref l]) (ts' := [.ol ds]) (A' := [l]) ⟨l, us, [], rfl, rfl, hl, hr, rfl⟩
  | [], _ :: _, _, h => False.elim h
  | _ :: _, [], _, h => False.elim h
theorem PtsOk.len : ∀ {us : List V} {ts : List Pt} {A : List Addr}, PtsOk K F H us ts A → us.length = ts.length
  | [], [], A, _ => rfl
  | v :: vs, .fl d :: ps, A, h => congrArg (· + 1) h.2.len
  | v :: vs, .ol ds :: ps, A, h => by
    obtain ⟨l, us, A1, rfl, rfl, hl, hr, q⟩ := h
    exact congrArg (· + 1) q.len
  | [], _ :: _, _, h => False.elim h
  | _ :: _, [], _, h => False.elim h
end
section
variable {K : PySem.W.Frag} {B F : Hp} {A : List Addr} {σ : SgT} {H : Hp} {E : List Sl} {xs : List V} {Xs : List Sl}
theorem pts_of : ∀ {us : List V} {ts : List Pt} {os : List (Option V)} {ss : List Sl} {A : List Addr}, us.length = ts.length → SAll (SlOk K F H σ) (us.map some ++ os) (ts.map ptSl ++ ss) A → ∃ A1 A2, A = A1 ++ A2 ∧ PtsOk K F H us ts A1 ∧ SAll (SlOk K F H σ) os ss A2
  | [], [], os, ss, A, _, h => ⟨[], A, rfl, rfl, h⟩
  | u :: us, t :: ts, os, ss, A, hl, h => by
    have h' : SAll (SlOk K F H σ) (some u :: (us.map some ++ os)) (ptSl t :: (ts.map ptSl ++ ss)) A := h
    cases h' with
    | cons q r =>
      obtain ⟨A1, A2, rfl, hp, hs⟩ := pts_of (by simpa using hl) r
      cases t with
      | fl d =>
        obtain ⟨rfl, w, ew, rw'⟩ := q
        cases ew
        exact ⟨A1, A2, rfl, ⟨rw', hp⟩, hs⟩
      | ol ds =>
        obtain ⟨l, vs, el, rfl, hl', r'⟩ := q
        cases el
        exact ⟨l :: A1, A2, rfl, ⟨l, vs, A1, rfl, rfl, hl', r', hp⟩, hs⟩
  | [], _ :: _, _, _, _, e, _ => by cases e
  | _ :: _, [], _, _, _, e, _ => by cases e
theorem FrF.newx {p : Addr} {vs : List V} {ps : List Pt} (hl : vs.length = ps.length) (h : FrF K B F A σ H E (vs.reverse ++ xs) (ps.reverse.map ptSl ++ Xs)) (hp : H p = none) : Frm K B σ (upd H p (.tup vs)) E (.ref p :: xs) (.tx ps :: Xs) := by
  have nA := h.newA hp
  have sl := h.sl
  rw [List.map_append, List.append_assoc, List.append_assoc] at sl
  obtain ⟨A1, A2, rfl, hpt, hs⟩ := pts_of (by simpa using hl) sl
  have g : Same H (upd H p (.tup vs)) := same_new hp _
  have gF : Same F (upd F p (.tup vs)) := same_new (h.fh.free hp) _
  have hr := hpt.rev
  rw [List.reverse_reverse, List.reverse_reverse] at hr
  have n1 : ∀ b ∈ A1, b ≠ p := fun b hb z => nA (by rw [← z]; exact List.mem_append_left _ hb)
  have n2 : ∀ b ∈ A2, b ≠ p := fun b hb z => nA (by rw [← z]; exact List.mem_append_right _ hb)
  refine ⟨upd F p (.tup vs), A1.reverse ++ A2, h.bf.trans gF, fun b o e => ?_, fun b o e => ?_, .cons ⟨p, vs, rfl, upd_same, hr.stay gF fun b hb => upd_ne (n1 b (List.mem_reverse.mp hb))⟩ (hs.mono fun o s C _ hC q => q.stay gF (fun b hb => upd_ne (n2 b (hC b hb))) fun _ => g), ?_, fun a ha => ?_, ?_, h.pl⟩
  · by_cases hb : b = p
    · subst hb; rw [upd_same] at e ⊢; exact e
    · rw [upd_ne hb] at e ⊢; exact h.fh _ _ e
  · obtain ⟨e1, e2⟩ := Option.filter_eq_some_iff.mp e
    by_cases hb : b = p
    · subst hb; rw [upd_same] at e1 ⊢; exact e1
    · rw [upd_ne hb] at e1 ⊢; exact h.tf b o (tups_of e1 e2)
  · exact (List.Perm.append_right _ (List.reverse_perm A1)).nodup_iff.mpr h.nd
  · have ne : a ≠ p := (List.mem_append.mp ha).elim (fun z => n1 a (List.mem_reverse.mp z)) (n2 a)
    rw [upd_ne ne]
    exact h.fr a ((List.mem_append.mp ha).elim (fun z => List.mem_append_left _ (List.mem_reverse.mp z)) (fun z => List.mem_append_right _ z))
  · have := h.len
    simp only [List.length_append, List.length_reverse, List.length_map] at this
    simp only [List.length_cons]
    omega
end
noncomputable def takeP (E : List Sl) : Sl → Option (Pt × List Sl)
  | .sh d => some (.fl d, E)
  | .ow ds => some (.ol ds, E)
  | .br d => if flat d then some (.fl d, E) else none
  | .al i => match E[i]? with
    | some (.ow ds) => some (.ol ds, E.set i .no)
    | some (.sh d) => some (.fl d, E)
    | _ => none
  | _ => none
noncomputable abbrev PMv := List Sl → Option (List Pt × List Sl)
noncomputable def raM (K : PySem.W.Frag) (m : Bool) (f : PMv) : TA := fun σ H Q => ∃ B E xs Xs ps E', Frm K B σ H E xs Xs ∧ (m = true → Calm Xs) ∧ f E = some (ps, E') ∧ ∀ vs H', vs.length = ps.length → Frm K B σ H' E' (vs.reverse ++ xs) (ps.reverse.map ptSl ++ Xs) → Q vs H'
noncomputable def MX (X : Cx) (es : List Expr) (m : Bool) (f : PMv) : Prop := PA X es (raM X.K m f)
noncomputable def mNil : PMv := fun E => some ([], E)
noncomputable def mCons (f : PEv) (g : PMv) : PMv := fun E => (f E).bind fun a => (takeP a.2 a.1).bind fun b => (g b.2).map fun c => (b.1 :: c.1, c.2)
noncomputable def pTupM (f : PMv) : PEv := fun E => (f E).bind fun a => if a.1.length ≤ 1000000 then some (.tx a.1, a.2) else none
section
variable {X : Cx} {e : Expr} {es : List Expr} {m1 m2 : Bool} {f : PEv} {g : PMv} {pos : Pos} {K : PySem.W.Frag}
theorem FrF.takeP {B F : Hp} {A : List Addr} {σ : SgT} {H : Hp} {E E' : List Sl} {xs : List V} {Xs : List Sl} {v : V} {s : Sl} {p : Pt} (h : FrF K B F A σ H E (v :: xs) (s :: Xs)) (q : PL.takeP E s = some (p, E')) : Frm K B σ H E' (v :: xs) (ptSl p :: Xs) := by
  cases s with
  | sh d => cases q; exact ⟨F, A, h⟩
  | ow ds => cases q; exact ⟨F, A, h⟩
  | br d =>
    simp only [PL.takeP] at q
    split at q
    · rename_i hf
      cases q
      have r := (h.look0 (d := d) rfl).1
      obtain ⟨A', h'⟩ := h.pop
      exact ⟨F, A', h'.push ⟨rfl, v, rfl, h.cold r hf⟩⟩
    · cases q
  | al i =>
    simp only [PL.takeP] at q
    split at q
    · rename_i ds ei
      cases q
      exact h.move ei
    · rename_i d ei
      cases q
      obtain ⟨v', A1, ev, rfl, w, ew, hw⟩ := h.ext (k := 0) rfl
      cases ev; cases ew
      obtain ⟨o, A2, eo, rfl, w, ew, r⟩ := h.var ei
      rw [hw] at eo
      cases eo
      cases ew
      obtain ⟨A', h'⟩ := h.pop
      exact ⟨F, A', h'.push ⟨rfl, _, rfl, r⟩⟩
    · cases q
  | no => cases q
  | od kvs => cases q
  | tx ps => cases q
theorem xm_nil : MX X [] false mNil := by
  refine pa_imp pa_nil fun σ H Q z => ?_
  obtain ⟨B, E, xs, Xs, res, E', fr, cl, e, q⟩ := z
  cases e
  exact q [] H rfl fr
theorem xm_cons (ha : EX X e m1 f) (hr : MX X es m2 g) (hs : starEach (e :: es) X.env = (false, eval e X.env) :: starEach es X.env := by rfl) : MX X (e :: es) (m1 || m2) (mCons f g) := by
  refine pa_imp (pa_cons ha hr hs) fun σ H Q z => ?_
  obtain ⟨B, E, xs, Xs, res, E', fr, cl, e, q⟩ := z
  obtain ⟨⟨s, E1⟩, e1, e⟩ := Option.bind_eq_some_iff.mp e
  obtain ⟨⟨p, E2⟩, e2, e⟩ := Option.bind_eq_some_iff.mp e
  obtain ⟨⟨rs, E3⟩, e3, e⟩ := Option.map_eq_some_iff.mp e
  cases e
  refine ⟨B, E, xs, Xs, s, E1, fr, fun z => cl (by simp [z]), e1, fun v1 H1 ⟨F, A, fr1⟩ => ?_⟩
  refine ⟨B, E2, v1 :: xs, ptSl p :: Xs, rs, E3, fr1.takeP e2, fun z => Calm.cons (cl (by simp [z])) (by cases p <;> rfl), e3, fun vs H2 hl fr2 => ?_⟩
  exact q (v1 :: vs) H2 (by simp [hl]) (by simpa using fr2)
theorem xe_tupM {x1} (h : MX X es m1 g) : EX X (.Tuple es x1 pos) m1 (pTupM g) := by
  refine pe_imp (pe_tup h) fun σ H Q z => ?_
  obtain ⟨B, E, xs, Xs, res, E', fr, cl, e, q⟩ := z
  obtain ⟨⟨ps, E1⟩, e1, e⟩ := Option.bind_eq_some_iff.mp e
  simp only at e
  split at e
  · rename_i hl
    cases e
    refine ⟨B, E, xs, Xs, ps, _, fr, cl, e1, fun vs H1 hv ⟨F, A, fr1⟩ => ?_⟩
    exact ⟨smallE (by omega), fun p hp => q _ _ (fr1.newx hv hp)⟩
  · cases e
end
noncomputable def pAppTx (i k : Nat) (f : PEv) : PEv := fun E => match E[i]? with
  | some (.tx ps0) => if (match ps0[k]? with | some (.ol _) => true | _ => false) then (f E).bind fun a => (frz a.2 a.1).bind fun b => match b.2[i]? with
    | some (.tx ps) => match ps[k]? with
      | some (.ol ds) => if ds.length < 1000000 then some (.sh .none, b.2.set i (.tx (ps.set k (.ol (ds ++ [b.1]))))) else none
      | _ => none
    | _ => none
    else none
  | _ => none
noncomputable def isFl : Pt → Bool
  | .fl _ => true
  | _ => false
noncomputable def normX (f : PEv) : PEv := fun E => (f E).bind fun a => match a.1 with
  | .tx ps => if ps.all isFl then some (.sh (.tuple (ps.map Pt.val)), a.2) else some a
  | _ => some a
theorem xe_norm {X : Cx} {e : Expr} {m : Bool} {f : PEv} (h : EX X e m f) : EX X e m (normX f) := by
  refine pe_imp h fun σ H Q z => ?_
  obtain ⟨B, E, xs, Xs, res, E', fr, cl, e, q⟩ := z
  obtain ⟨⟨s, E1⟩, e1, e⟩ := Option.bind_eq_some_iff.mp e
  refine ⟨B, E, xs, Xs, s, E1, fr, cl, e1, fun v H1 fr1 => ?_⟩
  simp only at e
  split at e
  · split at e
    · cases e
      obtain ⟨F, A, fr1⟩ := fr1
      obtain ⟨F2, A2, fr2⟩ := fr1.frz0 (d := .tuple _) rfl
      exact q _ _ ⟨F2, A2, fr2⟩
    · cases e
      exact q _ _ fr1
  · cases e
    exact q _ _ fr1
end PL
namespace PL
open PySem L2 Nh PyProof.Rows
noncomputable def pAug (i : Nat) (op : PyData → PyData → Option PyData) (f : PEv) : PSv := fun E => match E[i]? with
  | some (.sh d1) => (f E).bind fun a => (look a.2 a.1).bind fun d2 => if (ofD d1).isSome then (op d1 d2).bind fun d => if i < a.2.length then some (a.2.set i (.sh d), .nx) else none else none
  | _ => none
noncomputable def dAddS : PyData → PyData → Option PyData
  | .int i, .int j => some (.int (i + j))
  | .str a, .str b => if a.length + b.length ≤ 1000000 then some (.str (a ++ b)) else none
  | _, _ => none
noncomputable def dMulS : PyData → PyData → Option PyData := iOp okMul fun i j => .int (i * j)
noncomputable def dSubS : PyData → PyData → Option PyData := iOp (fun _ _ => true) fun i j => .int (i - j)
noncomputable def dFdivS : PyData → PyData → Option PyData := iOp (fun _ j => okDiv j) fun i j => .int (i / j)
noncomputable def dModS : PyData → PyData → Option PyData := iOp (fun _ j => decide (0 < j)) fun i j => .int (i % j)
end PL
namespace PL
open PySem PySem.Spec L2 Nh PyProof.Rows
noncomputable def Itc (lo c : Int) (n : Nat) : It := ⟨fun i _ => i < n, fun i H x H' => H' = H ∧ x = .int (lo + i * c), fun i _ => n ≤ i⟩
theorem turn_rangeC {P : Program} {w : World} {K : PySem.W.Frag} {tg : Expr} (it : Addr) (lo c : Int) (n : Nat) : Turn P w K tg (Itc lo c n) [it] it (fun i h => IsRangeIter h it (lo + (i : Nat) * c) ((n : Int) - (i : Nat)) c) where
  mem := by simp
  obj := fun i h st b hb => by
    have e : b = it := by simpa using hb
    subst e
    exact ⟨_, st, fun v z => by
      have z' : Data.fields _ = Data.cell v := z
      cases z'⟩
  keep := fun i h h' st k => k it (by simp) _ st
  item := by
    intro X hP hw hK hc i pins s σ H E I hf st hg
    subst hP hw hK
    obtain ⟨f0, f1, f2, f3, f4, f5⟩ := hf it (by simp)
    have W := Walks.range (prog := X.prog) (w := X.w) (I.ok.hd hc) it lo c n
    refine W.item i s _ _ hg st fun v h' tk hv st' kk => ?_
    obtain ⟨t, rfl⟩ := hv
    have I1 : Inv X pins σ H { s with heap := h', toks := tk } := I.turned (fun b o hb e => kk b o (by simpa using hb) e) f0 f1 f3 f4 f5
    exact ⟨_, rfl, go_of (s := { s with heap := h', toks := tk }) (n := "range_iterator") st' rfl rfl (by decide) ⟨.int (lo + i * c), H, I1, ⟨t, rfl⟩, ⟨rfl, rfl⟩, st', fun b hb => (hf b hb).1⟩⟩
  done := by
    intro X hP hw hK hc i pins s σ H E I hf st hg
    subst hP hw hK
    obtain ⟨f0, f1, f2, f3, f4, f5⟩ := hf it (by simp)
    exact wpAny_pyNext_range_end (I.ok.hd hc) st (by have : n ≤ i := hg; omega) fun h' eb => ⟨rfl, I.turned (t' := s.toks) (fun b o hb e => eb b o hb e) f0 f1 f3 f4 f5⟩
  self := fun _ _ _ _ _ st h => wpAny_pyIter_rangeiter st h
noncomputable def rngN (a b c : Int) : Nat := (Builtin.Range.rangeSize a b c).toNat
noncomputable def okR (i : Int) : Prop := -1000000 ≤ i ∧ i ≤ 1000000
noncomputable instance (i : Int) : Decidable (okR i) := inferInstanceAs (Decidable (_ ∧ _))
theorem size_ok {a b c : Int} (ha : okR a) (hb : okR b) (hc : okR c) (h0 : c ≠ 0) : 0 ≤ Builtin.Range.rangeSize a b c ∧ Builtin.Range.rangeSize a b c ≤ 2000000 := by
  unfold okR at ha hb hc
  unfold Builtin.Range.rangeSize
  split
  · split
    · have h1 : 0 ≤ (b - a - 1) / c := Int.ediv_nonneg (by omega) (by omega)
      have h2 : (b - a - 1) / c ≤ b - a - 1 := Int.ediv_le_self _ (by omega)
      omega
    · omega
  · split
    · have h1 : 0 ≤ (a - b - 1) / (-c) := Int.ediv_nonneg (by omega) (by omega)
      have h2 : (a - b - 1) / (-c) ≤ a - b - 1 := Int.ediv_le_self _ (by omega)
      omega
    · omega
theorem fits {i : Int} (h : -10000000 ≤ i ∧ i ≤ 10000000) : Builtin.Range.rangeFitsLong i = true := by
  unfold Builtin.Range.rangeFitsLong
  simp only [Bool.and_eq_true, decide_eq_true_eq]
  omega
theorem small_ok {a b c : Int} (ha : okR a) (hb : okR b) (hc : okR c) (h0 : c ≠ 0) : Builtin.Range.small a b c = true := by
  obtain ⟨s1, s2⟩ := size_ok ha hb hc h0
  unfold okR at ha hb hc
  unfold Builtin.Range.small
  rw [fits (i := a) (by omega), fits (i := b) (by omega), fits (i := c) (by omega), fits (i := Builtin.Range.rangeSize a b c) (by omega)]
  split
  · rw [fits (by omega)]; simp
  · rw [fits (by omega)]; simp
noncomputable def rngC (a c : Int) (n : Nat) : List PyData := (List.range n).map fun (k : Nat) => .int (a + (k : Int) * c)
noncomputable def iRngC (ta : TA) : TI := fun σ H R => ta σ H fun vs H1 => ∃ a b c : Int, vs = [.int a, .int b, .int c] ∧ (okR a ∧ okR b ∧ okR c ∧ c ≠ 0) ∧ R (Itc a c (rngN a b c)) H1
section
variable {X : Cx} {tg : Expr}
theorem rangeC_it {pins : List (Addr × Obj)} {σ : L2.St} {H : Hp} {s : Shared} {R : It → Hp → Prop} {E : Value → Shared → Prop} {lo hi c : Int} {t u v : Tok} {tk : Nat} (I : Inv X pins σ H s) (ha : okR lo) (hb : okR hi) (hc : okR c) (h0 : c ≠ 0)
    (q : R (Itc lo c (rngN lo hi c)) H) : wpAny (model X.prog X.w) X.A (pyIter (.ref s.heap.objs.size)) (PIE X pins σ tg R) E { s with heap := s.heap.push { cls := .type "range", data := .fields #[.int lo t, .int hi u, .int c v] }, toks := tk } := by
  refine wpAny_pyIter_range (IsRange.new ..) (small_ok ha hb hc h0) ?_
  have I1 : Inv X pins σ H { s with heap := s.heap.push { cls := .type "range", data := .fields #[.int lo t, .int hi u, .int c v] }, toks := tk } := I.kept fun b o e => Heap.get?_push_of_some _ e
  refine ⟨(s.heap.push { cls := .type "range", data := .fields #[.int lo t, .int hi u, .int c v] }).objs.size, [(s.heap.push { cls := .type "range", data := .fields #[.int lo t, .int hi u, .int c v] }).objs.size], _, _, H, rfl,
    I1.kept (t' := tk) fun b o e => Heap.get?_push_of_some _ e, turn_rangeC _ lo c (rngN lo hi c), ?_, fun b hb => ?_, q⟩
  · have e1 : lo + ((0 : Nat) : Int) * c = lo := by simp
    have e2 : ((rngN lo hi c : Nat) : Int) - ((0 : Nat) : Int) = Builtin.Range.rangeSize lo hi c := by
      have := (size_ok ha hb hc h0).1
      unfold rngN
      omega
    show IsRangeIter _ _ (lo + ((0 : Nat) : Int) * c) (((rngN lo hi c : Nat) : Int) - ((0 : Nat) : Int)) c
    rw [e1, e2]
    exact Heap.get?_push_size _ rfl
  · have e : b = (s.heap.push { cls := .type "range", data := .fields #[.int lo t, .int hi u, .int c v] }).objs.size := by simpa using hb
    subst e
    exact I1.fpOk (Nat.le_refl _) (I1.hok.fresh (Nat.le_refl _))
theorem pi_rangeC {a b c : Expr} {ta : TA} {p pos : Pos} (hg : Gl X "range") (hm : X.mg "range" = none) (ha : PA X [a, b, c] ta) (hs : starEach [a, b, c] X.env = [(false, eval a X.env), (false, eval b X.env), (false, eval c X.env)] := by rfl) (hs2 : starEach [b, c] X.env = [(false, eval b X.env), (false, eval c X.env)] := by rfl) :
    PI X tg (.Call (.Name "range" p) [a, b, c] [] pos) (iRngC ta) := by
  intro pins s σ H R I h
  refine Call_ (ld_blt I hg hm boot_range (PyProof.Rows.callWith_type1 (thn (ha pos pins s σ H _ I h) fun us s1 ⟨vs, H1, I1, r1, q1⟩ => ?_) (by rw [hs, hs2]) (by rw [hs2]; rfl)))
  obtain ⟨i, j, k, e, ⟨q1, q2, q3, q4⟩, q⟩ := q1
  subst e
  cases r1 with
  | cons r rr =>
    cases rr with
    | cons r' rr =>
      cases rr with
      | cons r'' rr =>
        cases rr
        obtain ⟨t, rfl⟩ := r
        obtain ⟨t', rfl⟩ := r'
        obtain ⟨t'', rfl⟩ := r''
        exact call_range_3 q4 (rangeC_it I1 q1 q2 q3 q4 q) (.inl (PyProof.noPylong_small (by unfold okR at q3; omega)))
end
noncomputable def iRng3P (g : PAv) : PDv := fun E => (g E).bind fun a => match lookA a.2 a.1 with
  | some [.int i, .int j, .int k] => if okR i ∧ okR j ∧ okR k ∧ k ≠ 0 then some (rngC i k (rngN i j k), a.2) else none
  | _ => none
theorem RpA.three {K : PySem.W.Frag} {H : Hp} {vs : List V} {d e f : PyData} (h : RpA K H vs [d, e, f]) : ∃ v u t, vs = [v, u, t] ∧ Rp K H v d ∧ Rp K H u e ∧ Rp K H t f := by
  cases h with
  | cons h t =>
    obtain ⟨u, t, rfl, r, r'⟩ := t.two
    exact ⟨_, _, _, rfl, h, r, r'⟩
section
variable {X : Cx} {tg e e2 e3 : Expr} {m : Bool} {g : PAv} {p pos : Pos} {K : PySem.W.Frag} {B : Hp}
theorem itOk_rangeC {lo c : Int} {n : Nat} : ItOk K B (Itc lo c n) (rngC lo c n) := fun {B' F A σ H E xs Xs} i sB fr => by
  have hl : (rngC lo c n).length = n := by simp [rngC]
  refine ⟨fun d ed => ?_, fun e => ?_⟩
  · have hi : i < n := by have := (List.getElem?_eq_some_iff.mp ed).1; omega
    refine ⟨hi, fun x H2 ⟨e2, y⟩ => ?_⟩
    subst e2 y
    have : d = .int (lo + i * c) := by
      unfold rngC at ed
      rw [List.getElem?_map, List.getElem?_range hi] at ed
      exact (Option.some.inj ed).symm
    subst this
    exact ⟨F, A, fr.push ⟨rfl, _, rfl, .int _⟩⟩
  · show n ≤ i
    omega
theorem xi_range3 (hg : Gl X "range") (hm : X.mg "range" = none) (ha : AX X [e, e2, e3] m g) (hs : starEach [e, e2, e3] X.env = [(false, eval e X.env), (false, eval e2 X.env), (false, eval e3 X.env)] := by rfl) (hs2 : starEach [e2, e3] X.env = [(false, eval e2 X.env), (false, eval e3 X.env)] := by rfl) : IX X tg (.Call (.Name "range" p) [e, e2, e3] [] pos) m (iRng3P g) := pi_imp (pi_rangeC hg hm ha hs hs2) fun σ H R z => by
  obtain ⟨B, E, xs, Xs, ds, E', fr, cl, e, q⟩ := z
  obtain ⟨⟨rs, E1⟩, e1, e⟩ := Option.bind_eq_some_iff.mp e
  refine ⟨B, E, xs, Xs, rs, E1, fr, cl, e1, fun vs H1 hl ⟨F, A, fr1⟩ => ?_⟩
  simp only at e
  split at e
  · rename_i i j k ld
    split at e
    · rename_i hj
      cases e
      obtain ⟨r, A', fr2⟩ := fr1.looks hl ld
      obtain ⟨v, u, t, rfl, r1, r2, r3⟩ := r.three
      cases r1; cases r2; cases r3
      exact ⟨i, j, k, rfl, hj, q B _ _ (Same.refl _) ⟨F, A', fr2⟩ itOk_rangeC⟩
    · cases e
  · cases e
theorem rngN_down (a b : Int) : rngN a b (-1) = (a - b).toNat := by
  unfold rngN Builtin.Range.rangeSize
  simp only [show ¬ ((-1 : Int) > 0) by decide, if_false, show -(-1 : Int) = 1 by decide, Int.ediv_one]
  split <;> omega
theorem rngC_down (a : Int) (n : Nat) : rngC a (-1) (n + 1) = .int a :: rngC (a - 1) (-1) n := by
  unfold rngC
  rw [List.range_succ_eq_map, List.map_cons, List.map_map]
  congr 1
  · simp
  · refine List.map_congr_left fun k _ => ?_
    simp only [Function.comp]
    congr 1
    omega
end
end PL
namespace PL
open PySem L2 Nh
noncomputable def sdNew : List (Key × List PyData) → Key → List (Key × List PyData)
  | [], k => [(k, [])]
  | p :: r, k => if p.1 = k then p :: r else p :: sdNew r k
noncomputable def sdPut : List (Key × List PyData) → Key → PyData → List (Key × List PyData)
  | [], k, d => [(k, [d])]
  | p :: r, k, d => if p.1 = k then (p.1, p.2 ++ [d]) :: r else p :: sdPut r k d
noncomputable def sdOk (kvs : List (Key × List PyData)) : Bool := decide (kvs.length < 1000000) && kvs.all fun p => decide (p.2.length < 1000000)
noncomputable def pSdApp (i : Nat) (fk fv : PEv) : PSv := fun E => match E[i]? with
  | some (.od kvs) => (fk (frzAll E)).bind fun a => match a.1 with
    | .sh kd => (keyOf kd).bind fun k => (fv (frzAll E)).bind fun b => match b.1 with
      | .sh d => if flat d && sdOk kvs then some (E.set i (.od (sdPut kvs k d)), .nx) else none
      | _ => none
    | _ => none
  | _ => none
noncomputable def pNewD : PEv := fun E => some (.od [], E)
section
variable {K : PySem.W.Frag} {B F : Hp} {A : List Addr} {σ : SgT} {H H' : Hp} {E : List Sl}
theorem DlOk.len : ∀ {us : List (Key × V)} {kvs : List (Key × List PyData)} {A : List Addr}, DlOk K F H us kvs A → us.length = kvs.length
  | [], [], A, h => rfl
  | p :: us, q :: kvs, A, h => by
    obtain ⟨l, vs, A', rfl, rfl, hl, hr, k⟩ := h
    simp [k.len]
  | [], _ :: _, _, h => False.elim h
  | _ :: _, [], _, h => False.elim h
theorem dl_there {k : Key} : ∀ {us : List (Key × V)} {kvs : List (Key × List PyData)} {A : List Addr} {v : V}, DlOk K F H us kvs A → valV us k = some v → sdNew kvs k = kvs ∧ ∃ lj vs ds, v = .ref lj ∧ lj ∈ A ∧ H lj = some (.lst vs) ∧ (∃ p ∈ kvs, p.2 = ds) ∧ RpA K F vs ds
  | [], [], A, v, h, e => by cases e
  | p :: us, q :: kvs, A, v, h, e => by
    obtain ⟨l, vs, A', rfl, rfl, hl, hr, kk⟩ := h
    by_cases c : q.1 = k
    · rw [valV_pos c] at e
      cases e
      exact ⟨by simp [sdNew, c], l, vs, q.2, rfl, by simp, hl, ⟨q, by simp, rfl⟩, hr⟩
    · rw [valV_neg c] at e
      obtain ⟨e1, lj, vs', ds, e2, e3, e4, ⟨p, hp, e5⟩, e6⟩ := dl_there kk e
      exact ⟨by simp [sdNew, c, e1], lj, vs', ds, e2, by simp [e3], e4, ⟨p, by simp [hp], e5⟩, e6⟩
  | [], _ :: _, _, _, h, _ => False.elim h
  | _ :: _, [], _, _, h, _ => False.elim h
theorem dl_put {k : Key} {w : V} {d : PyData} (r : Rp K F w d) : ∀ {us : List (Key × V)} {kvs : List (Key × List PyData)} {A : List Addr} {lj : Addr} {vs : List V}, DlOk K F H us kvs A → A.Nodup → valV us k = some (.ref lj) → H lj = some (.lst vs) → DlOk K F (upd H lj (.lst (vs ++ [w]))) us (sdPut kvs k d) A
  | [], [], A, lj, vs, h, _, e, _ => by cases e
  | p :: us, q :: kvs, A, lj, vs, h, nd, e, hj => by
    obtain ⟨l, vs0, A', rfl, rfl, hl, hr, kk⟩ := h
    have nd' := List.nodup_cons.mp nd
    by_cases c : q.1 = k
    · rw [valV_pos c] at e
      cases e
      rw [hl] at hj
      cases hj
      simp only [sdPut, c, if_true]
      exact ⟨lj, _, A', rfl, rfl, upd_same, hr.snoc r, kk.stay (Same.refl _) fun b hb => upd_ne fun z => nd'.1 (z ▸ hb)⟩
    · rw [valV_neg c] at e
      obtain ⟨_, lj', _, _, e2, e3, _⟩ := dl_there kk e
      cases e2
      simp only [sdPut, c, if_false]
      have hne : l ≠ lj := fun z => nd'.1 (by rw [z]; exact e3)
      exact ⟨l, vs0, A', rfl, rfl, by rw [upd_ne hne]; exact hl, hr, dl_put r kk nd'.2 e hj⟩
  | [], _ :: _, _, _, _, h, _, _, _ => False.elim h
  | _ :: _, [], _, _, _, h, _, _, _ => False.elim h
theorem dl_new {k : Key} {q : Addr} : ∀ {us : List (Key × V)} {kvs : List (Key × List PyData)} {A : List Addr}, DlOk K F H us kvs A → valV us k = none → H q = some (.lst []) → DlOk K F H (us ++ [(k, .ref q)]) (sdNew kvs k) (A ++ [q])
  | [], [], A, h, _, hq => by
    rw [show A = [] from h]
    exact ⟨q, [], [], rfl, rfl, hq, .nil, rfl⟩
  | p :: us, p' :: kvs, A, h, e, hq => by
    obtain ⟨l, vs0, A', rfl, rfl, hl, hr, kk⟩ := h
    by_cases c : p'.1 = k
    · rw [valV_pos c] at e; cases e
    · rw [valV_neg c] at e
      simp only [sdNew, c, if_false]
      exact ⟨l, vs0, A' ++ [q], rfl, rfl, hl, hr, dl_new kk e hq⟩
  | [], _ :: _, _, h, _, _ => False.elim h
  | _ :: _, [], _, h, _, _ => False.elim h
theorem valV_app {k : Key} {q : V} : ∀ {us : List (Key × V)}, valV us k = none → valV (us ++ [(k, q)]) k = some q
  | [], _ => valV_pos rfl
  | p :: us, e => by
    by_cases c : p.1 = k
    · rw [valV_pos c] at e; cases e
    · rw [valV_neg c] at e
      rw [List.cons_append, valV_neg c]
      exact valV_app e
theorem sdPut_new (k : Key) (d : PyData) : ∀ kvs : List (Key × List PyData), sdPut (sdNew kvs k) k d = sdPut kvs k d
  | [] => by simp [sdNew, sdPut]
  | p :: r => by
    by_cases c : p.1 = k
    · simp [sdNew, sdPut, c]
    · simp [sdNew, sdPut, c, sdPut_new k d r]
theorem FrF.odAt {i : Nat} {kvs : List (Key × List PyData)} (h : FrF K B F A σ H E [] []) (e : E[i]? = some (.od kvs)) :
    ∃ l us A1, σ[i]? = some (some (.ref l)) ∧ H l = some (.dK us) ∧ DlOk K F H us kvs A1 ∧ (l :: A1).Nodup ∧ (∀ a ∈ l :: A1, a ∈ A) ∧
      ∀ (H' : Hp) (us' : List (Key × V)) (kvs' : List (Key × List PyData)) (A1' : List Addr), H' l = some (.dK us') → DlOk K F H' us' kvs' A1' → (l :: A1').Nodup → (∀ b ∈ A1', b ∈ A1 ∨ (b ∉ A ∧ F b = none)) →
        (∀ b ∈ A, b ∉ l :: A1' → H' b = H b) → Same F H' → Same (tups H') F → ∃ A', FrF K B F A' σ H' (E.set i (.od kvs')) [] [] := by
  obtain ⟨o, A0, A1, A2, eA, eo, hp, put⟩ := h.sl.at (k := i) (s := .od kvs) (by simpa using e)
  obtain ⟨l, us, A1, rfl, rfl, hl, hd⟩ := hp
  have nd := h.nd
  rw [eA] at nd
  have nd1 := (List.nodup_append.mp (List.nodup_append.mp nd).2.1).1
  have eo' : σ[i]? = some (some (.ref l)) := by simpa using eo
  refine ⟨l, us, A1, eo', hl, hd, nd1, fun a ha => by rw [eA]; exact List.mem_append_right _ (List.mem_append_left _ ha), fun H' us' kvs' A1' hl' hd' nd' sub keep sF tF => ?_⟩
  have nl : ∀ b, b ∈ A0 ∨ b ∈ A2 → b ∈ A ∧ b ∉ l :: A1' := fun b hb => by
    have hbA : b ∈ A := by rw [eA]; simp only [List.mem_append]; rcases hb with z | z; exact .inl z; exact .inr (.inr z)
    have hn : b ∉ l :: A1 := fun z => by
      rcases hb with hb | hb
      · exact (List.nodup_append.mp nd).2.2 b hb b (List.mem_append_left _ z) rfl
      · exact (List.nodup_append.mp (List.nodup_append.mp nd).2.1).2.2 b z b hb rfl
    refine ⟨hbA, fun z => ?_⟩
    rcases List.mem_cons.mp z with z | z
    · exact hn (by rw [z]; simp)
    · rcases sub b z with z | z
      · exact hn (List.mem_cons_of_mem _ z)
      · exact z.1 hbA
  have z := put (SlOk K F H' σ) (some (.ref l)) (.od kvs') (l :: A1') ⟨l, us', A1', rfl, rfl, hl', hd'⟩ fun o s C hs hC q => q.stay (Same.refl _) (fun b hb => keep b (nl b (hC b hb)).1 (nl b (hC b hb)).2) fun z => by
    have := h.pl s (by simpa using hs)
    cases s <;> simp [Sl.isAl, Sl.isBr] at this z
  have e2 : (List.map some ([] : List V) ++ σ).set i (some (V.ref l)) = List.map some ([] : List V) ++ σ := by
    simp only [List.map_nil, List.nil_append]
    exact List.ext_getElem? fun j => by
      by_cases hj : i = j
      · subst hj
        rw [List.getElem?_set_self', eo']; rfl
      · rw [List.getElem?_set_ne hj]
  rw [e2] at z
  refine ⟨_, h.bf, sF, tF, by simpa using z, ?_, fun a ha => ?_, rfl, fun s hs => ?_⟩
  · have a0 := (List.nodup_append.mp nd).1
    have a2 := (List.nodup_append.mp (List.nodup_append.mp nd).2.1).2.1
    refine List.nodup_append.mpr ⟨a0, List.nodup_append.mpr ⟨nd', a2, fun a ha b hb e => (nl b (.inr hb)).2 (e ▸ ha)⟩, fun a ha b hb e => ?_⟩
    rcases List.mem_append.mp (show b ∈ (l :: A1') ++ A2 from hb) with hb | hb
    · exact (nl a (.inl ha)).2 (e ▸ hb)
    · exact (List.nodup_append.mp nd).2.2 a ha a (List.mem_append_right _ (e ▸ hb)) rfl
  · rcases List.mem_append.mp ha with z | z
    · exact h.fr a (nl a (.inl z)).1
    · rcases List.mem_append.mp (show a ∈ (l :: A1') ++ A2 from z) with z | z
      · rcases List.mem_cons.mp z with z | z
        · rw [z]; exact h.fr l (by rw [eA]; simp)
        · rcases sub a z with z | z
          · exact h.fr a (by rw [eA]; simp [z])
          · exact z.2
      · exact h.fr a (nl a (.inr z)).1
  · rcases List.mem_or_eq_of_mem_set hs with hs | hs
    · exact h.pl s hs
    · subst hs; rfl
theorem FrF.frzTo (h : FrF K B F A σ H E [] []) (g : Same H H') : FrF K H' H' [] σ H' (PL.frzAll E) [] [] := by
  have h1 := (h.frzAll rfl).grow g
  have e : (fun b => if b ∈ ([] : List Addr) then none else H' b) = H' := by funext b; simp
  rw [e] at h1
  exact ⟨Same.refl _, h1.fh, h1.tf, h1.sl, h1.nd, h1.fr, h1.len, h1.pl⟩
theorem frzAll_od {i : Nat} {kvs kvs' : List (Key × List PyData)} (e : E[i]? = some (.od kvs)) : PL.frzAll (E.set i (.od kvs')) = PL.frzAll E := by
  unfold PL.frzAll
  rw [List.map_set]
  refine List.ext_getElem? fun j => ?_
  by_cases c : i = j
  · subst c
    rw [List.getElem?_set_self', List.getElem?_map, e]
    rfl
  · rw [List.getElem?_set_ne c]
end
section
variable {X : Cx} {ek ev : Expr} {mk mv : Bool} {fk fv : PEv} {x : Str} {p ap1 cp1 ap2 cp2 lp pos : Pos}
noncomputable def rSetdef : V → List V → Hp → VK → Prop := fun x xs H Q => ∃ a kvs k q, x = .ref a ∧ xs = [kV k, q] ∧ H a = some (.dK kvs) ∧ kvs.length < sizeLine ∧ (∀ v, valV kvs k = some v → Q v H) ∧ (valV kvs k = none → Q q (upd H a (.dK (kvs ++ [(k, q)]))))
theorem mt_setdef : MtR X "dict.setdefault" rSetdef := by
  intro pins s σ H x xs v us Q I rx rv h
  obtain ⟨a, kvs, k, q, rfl, rfl, e, hz, h1, h2⟩ := h
  cases rx
  cases rv with
  | cons ry rv =>
    cases rv with
    | cons rq rv =>
      cases rv
      obtain ⟨z, hd, vs, rel, dd⟩ := dk_of I.hok e
      refine call_meetsIn PySem.F.slot_dict_setdefault dd.typeIs PySem.F.entry_dict_setdefault (PySem.F.args_dict_setdefault_3 _ _ _) (kt_meets_setdefault (mixKind X.prog X.w) a (kV_is ry) hd _) ⟨vs, dd, by rw [← rel.length]; exact z, fun v' hv' => ?_, fun hn h' dd' hs => ?_⟩
      · have r := rel.val k
        rw [hv'] at r
        cases hv : valV kvs k with
        | none => rw [hv] at r; exact False.elim r
        | some v => rw [hv] at r; exact ⟨v, H, I.tok _, r, h1 v hv⟩
      · have r := rel.val k
        rw [hn] at r
        cases hv : valV kvs k with
        | some v => rw [hv] at r; exact False.elim r
        | none =>
          have he : ∃ q, h'.get? a = some q := let ⟨q, _, _, hq, _⟩ := dd'; ⟨q, hq⟩
          have hl : (putK kvs k q).length ≤ sizeLine := by have := length_putK kvs k q; omega
          have := d_write (t' := s.toks + 1) I (by rw [e]; exact True.intro) hs he (dk_new hl hd (rel.put k rq) dd')
          rw [putK_new q hv] at this
          exact ⟨q, _, this, rq, h2 hv⟩
end
end PL
namespace PL
open PySem L2 Nh
section
variable {X : Cx} {ek ev : Expr} {mk mv : Bool} {fk fv : PEv} {x : Str} {p ap1 cp1 ap2 cp2 lp pos : Pos}
theorem xs_sdapp (i : Nat) (hk : EX X ek mk fk) (hv : EX X ev mv fv) (hN : X.N[i]? = some x := by rfl) (hvi : Vis X.env.scope x := by first | exact Or.inl rfl | exact Or.inr (Or.inl rfl) | exact Or.inr (Or.inr rfl)) (hd : (x == ("__debug__" : Str)) = false := by decide) (hcd : (x == ("__classdict__" : Str)) = false := by decide)
    (hs1 : starEach [ek, .List [] lp] X.env = (false, eval ek X.env) :: starEach [.List [] lp] X.env := by rfl) (hs2 : starEach [.List [] lp] X.env = [(false, eval (.List [] lp) X.env)] := by rfl) (hp1 : (backTo cp1 (starEach [.List [] lp] X.env)).any (·.1) = false := by rfl)
    (hb1 : attributeBase (.Name x p) "setdefault" X.env (eval (.Name x p) X.env) = eval (.Name x p) X.env := by rfl)
    (hf1 : ((backTo cp1 (starEach [ek, .List [] lp] X.env)).all (fun x => !x.1) && (backToKw cp1 (keywordEach [] X.env)).all (fun x => x.1.isSome)
      && decide (([ek, .List [] lp] : List Expr).length + ([] : List Keyword).length + (if ([] : List Keyword).isEmpty then 0 else 1) < 30)) = true := by rfl) (hl1 : (ap1.endLine == cp1.line) = true := by rfl)
    (hs3 : starEach [ev] X.env = [(false, eval ev X.env)] := by rfl)
    (hb2 : attributeBase (.Call (.Attribute (.Name x p) "setdefault" ap1) [ek, .List [] lp] [] cp1) "append" X.env (eval (.Call (.Attribute (.Name x p) "setdefault" ap1) [ek, .List [] lp] [] cp1) X.env) = eval (.Call (.Attribute (.Name x p) "setdefault" ap1) [ek, .List [] lp] [] cp1) X.env := by rfl)
    (hf2 : ((backTo cp2 (starEach [ev] X.env)).all (fun x => !x.1) && (backToKw cp2 (keywordEach [] X.env)).all (fun x => x.1.isSome)
      && decide (([ev] : List Expr).length + ([] : List Keyword).length + (if ([] : List Keyword).isEmpty then 0 else 1) < 30)) = true := by rfl) (hl2 : (ap2.endLine == cp2.line) = true := by rfl)
    (hsw : swapsWith (.Call (.Attribute (.Call (.Attribute (.Name x p) "setdefault" ap1) [ek, .List [] lp] [] cp1) "append" ap2) [ev] [] cp2) none pos.line X.env = pure false := by rfl) :
    SX X (.Expr (.Call (.Attribute (.Call (.Attribute (.Name x p) "setdefault" ap1) [ek, .List [] lp] [] cp1) "append" ap2) [ev] [] cp2) pos) (pSdApp i fk fv) := by
  refine ps_imp (ps_expr (pe_bm PySem.F.plainAttrs_list PySem.F.slot_list_append PySem.F.type_list_append mt_append
    (pe_bm PySem.F.plainAttrs_dict PySem.F.slot_dict_setdefault PySem.F.type_dict_setdefault mt_setdef (pe_var hN hvi hd hcd) (pa_cons hk (pa_cons (pe_lst pa_nil) pa_nil hs2) hs1) hb1 hf1 hl1 hs1 hp1)
    (pa_cons hv pa_nil hs3) hb2 hf2 hl2 hs3 rfl) hsw) fun D σ H z => ?_
  obtain ⟨B, E, xs, Xs, E', fl, ⟨F, A, fr⟩, cl, e, q⟩ := z
  subst cl
  have hx : xs = [] := by simpa using fr.len
  subst hx
  unfold pSdApp at e
  split at e
  · rename_i kvs ei
    obtain ⟨⟨s1, E1⟩, e1, e⟩ := Option.bind_eq_some_iff.mp e
    simp only at e
    split at e
    · rename_i kd
      obtain ⟨k, ekk, e⟩ := Option.bind_eq_some_iff.mp e
      obtain ⟨⟨s2, E2⟩, e2, e⟩ := Option.bind_eq_some_iff.mp e
      simp only at e
      split at e
      · rename_i d
        split at e
        · rename_i hc
          cases e
          simp only [Bool.and_eq_true, sdOk, decide_eq_true_eq, List.all_eq_true] at hc
          obtain ⟨hfl, hlen, hlens⟩ := hc
          obtain ⟨l, us, A1, eo, hl, hdl, nd, sub, put⟩ := fr.odAt ei
          refine ⟨_, eo, .inr (.inr (.inl ⟨rfl, .inl ⟨us, hl⟩⟩)), H, _, [], [], _, E1, ⟨H, [], fr.frzTo (Same.refl _)⟩, fun _ => (fun s hs => by cases hs), e1, fun v1 H1 ⟨F1, B1, fr1⟩ => ?_⟩
          have S1 : Same H H1 := fr1.bf.trans fr1.fh
          have r1 := (fr1.look0 (d := kd) rfl).1
          rw [keyOf_D ekk] at r1
          obtain rfl := rp_key r1
          refine ⟨Nat.zero_le _, fun q0 hq0 => ?_⟩
          have ib : i < E.length := by
            rcases Nat.lt_or_ge i E.length with z | z
            · exact z
            · rw [List.getElem?_eq_none z] at ei; cases ei
          have hlne : l ≠ q0 := fun z => by rw [← z, S1 _ _ hl] at hq0; cases hq0
          have nq : H q0 = none := S1.free hq0
          have g1 : Same H (upd H1 q0 (.lst [])) := S1.trans (same_new hq0 _)
          have fin : ∀ (H2 F2 : Hp) (A2 : List Addr) (us2 : List (Key × V)) (lj : Addr) (vs : List V), FrF X.K B F2 A2 σ H2 (E.set i (.od (sdNew kvs k))) [] [] → H2 l = some (.dK us2) → valV us2 k = some (.ref lj) → H2 lj = some (.lst vs) → vs.length < 1000000 →
              tyV X.K "list" (.ref lj) H2 ∧ rd X.K mv fv σ H2 fun y H3 => rAppend (.ref lj) [y] H3 fun _ H4 => D.nx σ H4 := fun H2 F2 A2 us2 lj vs fr2 hl2 hv2 hj hvl => by
            refine ⟨.inl ⟨rfl, _, SqL.of hj⟩, H2, PL.frzAll E, [], [], _, E2, ⟨H2, [], by have := fr2.frzTo (Same.refl _); rwa [frzAll_od ei] at this⟩, fun _ => (fun s hs => by cases hs), e2, fun y H3 ⟨F3, B3, fr3⟩ => ?_⟩
            have S3 : Same H2 H3 := fr3.bf.trans fr3.fh
            have r3 := ((fr3.look0 (d := d) rfl).1).cold hfl
            obtain ⟨Fg, frg⟩ : ∃ Fg, FrF X.K B Fg A2 σ H3 (E.set i (.od (sdNew kvs k))) [] [] := ⟨_, fr2.grow S3⟩
            have hj3 := S3 _ _ hj
            have ei2 : (E.set i (.od (sdNew kvs k)))[i]? = some (.od (sdNew kvs k)) := by rw [List.getElem?_set_self ib]
            obtain ⟨l', us', A1', eo', hl', hdl', nd', sub', put'⟩ := frg.odAt ei2
            rw [eo] at eo'
            cases eo'
            rw [S3 _ _ hl2] at hl'
            cases hl'
            obtain ⟨_, lj', _, _, el, ljA, _⟩ := dl_there hdl' hv2
            cases el
            have nlj : l ≠ lj := fun z => (List.nodup_cons.mp nd').1 (z ▸ ljA)
            refine ⟨lj, vs, y, rfl, rfl, hj3, by rw [sizeLine_eq]; omega, ?_⟩
            obtain ⟨A', fr4⟩ := put' (upd H3 lj (.lst (vs ++ [y]))) us2 (sdPut (sdNew kvs k) k d) A1' (by rw [upd_ne nlj]; exact S3 _ _ hl2) (dl_put (r3.same frg.tf) hdl' (List.nodup_cons.mp nd').2 hv2 hj3) nd' (fun b hb => .inl hb)
              (fun b _ hn => upd_ne fun z => hn (by rw [z]; exact List.mem_cons_of_mem _ ljA)) (fun b o q1 => by rw [upd_ne fun z => by rw [z, frg.fr lj (sub' lj (List.mem_cons_of_mem _ ljA))] at q1; cases q1]; exact frg.fh _ _ q1) (by rw [tups_upd hj3]; exact frg.tf)
            rw [List.set_set, sdPut_new] at fr4
            exact q _ _ ⟨_, _, fr4⟩
          have hk2 : (upd H1 q0 (.lst [])) l = some (.dK us) := by rw [upd_ne hlne]; exact S1 _ _ hl
          refine ⟨l, us, k, .ref q0, rfl, rfl, hk2, by rw [hdl.len, sizeLine_eq]; omega, fun v hvv => ?_, fun hvn => ?_⟩
          · obtain ⟨es, lj, vs, ds, rfl, ljA, hj, ⟨p0, hp0, rfl⟩, hr⟩ := dl_there hdl hvv
            have eE : E.set i (.od (sdNew kvs k)) = E := by
              rw [es]
              exact List.ext_getElem? fun j => by
                by_cases hj : i = j
                · subst hj; rw [List.getElem?_set_self ib, ei]
                · rw [List.getElem?_set_ne hj]
            exact fin _ _ _ us lj vs (by rw [eE]; exact fr.grow g1) hk2 hvv (g1 _ _ hj) (by rw [hr.len]; have := hlens p0 hp0; omega)
          · obtain ⟨Fg, frg, nqF⟩ : ∃ Fg, FrF X.K B Fg A σ (upd H1 q0 (.lst [])) E [] [] ∧ Fg q0 = none := ⟨_, fr.growN (N := [q0]) g1 (fun a ha => by rw [List.mem_singleton.mp ha]; exact ⟨nq, .inl ⟨_, upd_same⟩⟩), if_pos (by simp)⟩
            obtain ⟨l', us', A1', eo', hl', hdl', nd', sub', put'⟩ := frg.odAt ei
            rw [eo] at eo'
            cases eo'
            rw [hk2] at hl'
            cases hl'
            have nqA : q0 ∉ A := fr.newA nq
            have c1 : DlOk X.K Fg (upd (upd H1 q0 (.lst [])) l (.dK (us ++ [(k, .ref q0)]))) (us ++ [(k, .ref q0)]) (sdNew kvs k) (A1' ++ [q0]) := by
              refine (dl_new hdl' hvn upd_same).stay (Same.refl _) fun b hb => upd_ne fun z => ?_
              subst z
              rcases List.mem_append.mp hb with z | z
              · exact (List.nodup_cons.mp nd').1 z
              · exact hlne (List.mem_singleton.mp z)
            have c2 : (l :: (A1' ++ [q0])).Nodup := by
              refine List.nodup_cons.mpr ⟨fun z => ?_, List.nodup_append.mpr ⟨(List.nodup_cons.mp nd').2, by simp, fun a ha b hb e => ?_⟩⟩
              · rcases List.mem_append.mp z with z | z
                · exact (List.nodup_cons.mp nd').1 z
                · exact hlne (List.mem_singleton.mp z)
              · rw [List.mem_singleton.mp hb] at e
                exact nqA (e ▸ sub' a (List.mem_cons_of_mem _ ha))
            have c3 : ∀ b ∈ A1' ++ [q0], b ∈ A1' ∨ (b ∉ A ∧ Fg b = none) := fun b hb => by
              rcases List.mem_append.mp hb with z | z
              · exact .inl z
              · rw [List.mem_singleton.mp z]
                exact .inr ⟨nqA, nqF⟩
            have c5 : Same Fg (upd (upd H1 q0 (.lst [])) l (.dK (us ++ [(k, .ref q0)]))) := fun b o q1 => by
              have hb : b ≠ l := fun z => by rw [z, frg.fr l (sub' l (by simp))] at q1; cases q1
              rw [upd_ne hb]
              exact frg.fh _ _ q1
            have c6 : Same (tups (upd (upd H1 q0 (.lst [])) l (.dK (us ++ [(k, .ref q0)])))) Fg := fun b o q1 => by
              obtain ⟨z1, z2⟩ := Option.filter_eq_some_iff.mp q1
              by_cases hb : b = l
              · subst hb; rw [upd_same] at z1; cases z1; cases z2
              · rw [upd_ne hb] at z1; exact frg.tf b o (tups_of z1 z2)
            obtain ⟨A', fr4⟩ := put' _ (us ++ [(k, .ref q0)]) (sdNew kvs k) (A1' ++ [q0]) upd_same c1 c2 c3 (fun b _ hn => upd_ne fun z => hn (by rw [z]; exact List.mem_cons_self ..)) c5 c6
            exact fin _ _ _ _ q0 [] fr4 upd_same (valV_app hvn) (by rw [upd_ne (Ne.symm hlne)]; exact upd_same) (by simp)
        · cases e
      · cases e
    · cases e
  · cases e
theorem xe_newD : EX X (.Dict [] [] pos) true pNewD := by
  refine pe_imp pe_dnewK fun σ H Q z => ?_
  obtain ⟨B, E, xs, Xs, res, E', ⟨F, A, fr⟩, c, e, q⟩ := z
  cases e
  intro p hp
  exact q _ _ ⟨_, _, fr.newd hp⟩
end
end PL
namespace PL
open PySem L2 Nh
noncomputable def getDl : List (Key × List PyData) → Key → Option (List PyData)
  | [], _ => none
  | p :: r, k => if p.1 = k then some p.2 else getDl r k
noncomputable def pInD (i : Nat) (f : PEv) : PTv := fun E => (f E).bind fun a => (look a.2 a.1).bind fun kd => (keyOf kd).bind fun k => match a.2[i]? with
  | some (.od kvs) => some ((getDl kvs k).isSome, a.2)
  | _ => none
section
variable {K : PySem.W.Frag} {F H : Hp}
theorem dl_get {k : Key} : ∀ {us : List (Key × V)} {kvs : List (Key × List PyData)} {A : List Addr}, DlOk K F H us kvs A → (valV us k).isSome = (getDl kvs k).isSome ∧ ∀ ds, getDl kvs k = some ds → ∃ lj vs, valV us k = some (.ref lj) ∧ lj ∈ A ∧ H lj = some (.lst vs) ∧ RpA K F vs ds
  | [], [], A, h => ⟨rfl, fun ds e => by cases e⟩
  | p :: us, q :: kvs, A, h => by
    obtain ⟨l, vs, A', rfl, rfl, hl, hr, kk⟩ := h
    obtain ⟨g1, g2⟩ := dl_get (k := k) kk
    by_cases c : q.1 = k
    · rw [valV_pos c]
      simp only [getDl, c, if_true]
      exact ⟨rfl, fun ds e => by cases e; exact ⟨l, vs, rfl, by simp, hl, hr⟩⟩
    · rw [valV_neg c]
      simp only [getDl, c, if_false]
      refine ⟨g1, fun ds e => ?_⟩
      obtain ⟨lj, vs', e1, e2, e3, e4⟩ := g2 ds e
      exact ⟨lj, vs', e1, by simp [e2], e3, e4⟩
  | [], _ :: _, _, h => False.elim h
  | _ :: _, [], _, h => False.elim h
end
section
variable {X : Cx} {e : Expr} {m : Bool} {f : PEv} {x : Str} {p pos : Pos}
theorem op_inD (hu : X.A.units + 1 < cLine) : OpR X (compareOp .In) (fun x y H Q => ∃ a kvs k, y = .ref a ∧ x = kV k ∧ H a = some (.dK kvs) ∧ Q (.bl (valV kvs k).isSome) H) := by
  intro pins s σ H x y v u Q I rx ry h
  obtain ⟨a, kvs, k, rfl, rfl, e, q⟩ := h
  cases ry
  exact d_in hu I (DGet.k e) rx fun s' I' => ⟨.bl _, H, I', rfl, q⟩
theorem xt_inD (i : Nat) (hu : X.A.units + 64 < cLine) (he : EX X e m f) (hN : X.N[i]? = some x := by rfl) (hv : Vis X.env.scope x := by first | exact Or.inl rfl | exact Or.inr (Or.inl rfl) | exact Or.inr (Or.inr rfl)) (hd : (x == ("__debug__" : Str)) = false := by decide) (hcd : (x == ("__classdict__" : Str)) = false := by decide)
    (hm : behindInMarks .In (.Name x p) = false := by with_unfolding_all rfl) : TX X (.Compare e [.In] [.Name x p] pos) m (pInD i f) := by
  refine pt_imp (pt_cmpR (op_inD (by omega)) he (pe_var hN hv hd hcd) hm) fun σ H Q z => ?_
  obtain ⟨B, E, xs, Xs, b, E', fr, cl, e, q⟩ := z
  obtain ⟨⟨s1, E1⟩, e1, e⟩ := Option.bind_eq_some_iff.mp e
  obtain ⟨kd, e2, e⟩ := Option.bind_eq_some_iff.mp e
  obtain ⟨k, e3, e⟩ := Option.bind_eq_some_iff.mp e
  simp only at e
  split at e
  · rename_i kvs ei
    cases e
    refine ⟨B, E, xs, Xs, s1, _, fr, cl, e1, fun v1 H1 ⟨F1, A1, fr1⟩ => ?_⟩
    have r1 := (fr1.look0 e2).1
    rw [keyOf_D e3] at r1
    obtain rfl := rp_key r1
    obtain ⟨A', fr2⟩ := fr1.pop
    obtain ⟨o, A2, eo, l, us, A3, rfl, rfl, hl, hdl⟩ := fr2.var ei
    refine ⟨_, eo, l, us, k, rfl, rfl, hl, _, rfl, ?_⟩
    rw [(dl_get hdl).1]
    exact q _ ⟨F1, A', fr2⟩
  · cases e
end
end PL
namespace PL
open PySem PySem.SeqAt
open AutoSeq1 (wpAny_loadPart')
open MeetsSeq MeetsSeq2 MeetsSeq3 SeqRoads2
noncomputable def RcLtAt (A : Around) (s : Shared) (y x : Value) (b : Bool) : Prop :=
  ∀ (prog : Program) (w : World) (E : Value → Shared → Prop) (Q : Value → Shared → Prop), Q (.bool b) s → wpAny (model prog w) A (richCompare .Lt y x) Q E s
noncomputable def lexB (e r : Nat → Bool) (fin : Bool) : List Nat → Bool
  | [] => fin
  | j :: js => if e j then lexB e r fin js else r j
theorem lt_loopAt (l b : Addr) (items items2 : Array Value) (n n2 : Nat) (dd dd2 : Option Addr) (sl sl2 : Array (Option Value)) (e r : Nat → Bool) (k : Nat) :
    ∀ i : Nat, min items.size items2.size - i = k → Meets (Builtin.«list.__eq__.loop» ⟨[.ref l, .ref b, rawInt i, rawInt 0], []⟩)
      (fun A R s => s.heap.get? l = some { cls := .type "list", dict := dd, data := .seq items n, slots := sl } ∧ s.heap.get? b = some { cls := .type "list", dict := dd2, data := .seq items2 n2, slots := sl2 } ∧
        (∀ j (h1 : j < items.size) (h2 : j < items2.size), EqAt A.in1 s items[j] items2[j] (e j)) ∧ (∀ j (h1 : j < items.size) (h2 : j < items2.size), e j = false → RcLtAt A.in1 s items[j] items2[j] (r j)) ∧
        R (.ok (.ret (.bool (lexB e r (decide (items.size < items2.size)) ((List.range (min items.size items2.size)).drop i))))) s) := by
  induction k with
  | zero =>
    intro i hk prog w A R s h
    obtain ⟨hp, g, d, tk, os⟩ := s; obtain ⟨hl, hb, he, hr, h⟩ := h
    wp_walk using wpAny_loadPart' hl, wpAny_loadPart' hb
    have hd : (List.range (min items.size items2.size)).drop i = [] := by simp; omega
    rw [hd] at h
    have hi : items[((i : Nat) : Int).toNat]? = none ∨ items2[((i : Nat) : Int).toNat]? = none := by
      simp
      omega
    have fin : R (.ok (.ret (.bool (decide (items.size < items2.size))))) ⟨hp, g, d, tk, os⟩ := h
    rcases h1 : items[((i : Nat) : Int).toNat]? with _ | x1
    · wp_walk using wpAny_loadPart' hl, wpAny_loadPart' hb
      exact fin
    · rcases h2 : items2[((i : Nat) : Int).toNat]? with _ | x2
      · wp_walk using wpAny_loadPart' hl, wpAny_loadPart' hb
        exact fin
      · rw [h1, h2] at hi
        rcases hi with hi | hi <;> cases hi
  | succ k ih =>
    intro i hk prog w A R s h
    obtain ⟨hp, g, d, tk, os⟩ := s; obtain ⟨hl, hb, he, hr, h⟩ := h
    wp_walk using wpAny_loadPart' hl, wpAny_loadPart' hb
    have hm : i < min items.size items2.size := by omega
    have hlt : i < items.size := by omega
    have hlt2 : i < items2.size := by omega
    have hi1 : items[((i : Nat) : Int).toNat]? = some items[i] := by simp [hlt]
    have hi2 : items2[((i : Nat) : Int).toNat]? = some items2[i] := by simp [hlt2]
    have hd : (List.range (min items.size items2.size)).drop i = i :: (List.range (min items.size items2.size)).drop (i + 1) := by simp [List.drop_eq_getElem_cons, hm]
    have hc : ((i : Int) + 1) = ((i + 1 : Nat) : Int) := by push_cast; rfl
    rw [hd, lexB] at h
    rw [hi1, hi2]
    refine wpAny_bind (he i hlt hlt2 prog w _ _ ?_)
    cases hb' : e i with
    | true =>
      rw [hb', if_pos rfl] at h
      wp_walk
      rw [hc]
      exact ⟨plainId_quiet plain_eq_loop _, codeAny_builtin entry_eq_loop (by
        rw [Around.under_plainId plain_eq_loop _]
        exact ih (i + 1) (by omega) prog w A R _ ⟨hl, hb, he, hr, h⟩)⟩
    | false =>
      rw [hb', if_neg (by decide)] at h
      wp_walk using wpAny_loadPart' hl, wpAny_loadPart' hb
      rw [hi1, hi2]
      refine wpAny_bind (hr i hlt hlt2 hb' prog w _ _ ?_)
      wp_walk
      exact h
theorem list_ltAt (l b : Addr) (items items2 : Array Value) (n n2 : Nat) (dd dd2 : Option Addr) (sl sl2 : Array (Option Value)) (e r : Nat → Bool) :
    Meets (Builtin.«list.__lt__» ⟨[.ref l, .ref b], []⟩)
      (fun A R s => s.heap.get? l = some { cls := .type "list", dict := dd, data := .seq items n, slots := sl } ∧ s.heap.get? b = some { cls := .type "list", dict := dd2, data := .seq items2 n2, slots := sl2 } ∧
        (∀ j (h1 : j < items.size) (h2 : j < items2.size), EqAt A.in1 s items[j] items2[j] (e j)) ∧ (∀ j (h1 : j < items.size) (h2 : j < items2.size), e j = false → RcLtAt A.in1 s items[j] items2[j] (r j)) ∧
        R (.ok (.ret (.bool (lexB e r (decide (items.size < items2.size)) (List.range (min items.size items2.size)))))) s) := by
  intro prog w A R s h
  obtain ⟨hp, g, d, tk, os⟩ := s; obtain ⟨hl, hb, he, hr, h⟩ := h
  have f3 := AutoSeq1.sub_list_list
  wp_walk using wpAny_loadPart' hl, wpAny_loadPart' hb
  exact ⟨plainId_quiet plain_eq_loop _, codeAny_builtin entry_eq_loop (by
    rw [Around.under_plainId plain_eq_loop _]
    exact lt_loopAt l b items items2 n n2 dd dd2 sl sl2 e r _ 0 rfl prog w A R _ ⟨hl, hb, he, hr, by simpa using h⟩)⟩
theorem tuple_ltAt (l b : Addr) (items items2 : Array Value) (n n2 : Nat) (dd dd2 : Option Addr) (sl sl2 : Array (Option Value)) (e r : Nat → Bool) :
    Meets (Builtin.«tuple.__lt__» ⟨[.ref l, .ref b], []⟩)
      (fun A R s => s.heap.get? l = some { cls := .type "tuple", dict := dd, data := .seq items n, slots := sl } ∧ s.heap.get? b = some { cls := .type "tuple", dict := dd2, data := .seq items2 n2, slots := sl2 } ∧
        (∀ j (h1 : j < items.size) (h2 : j < items2.size), EqAt A.in1 s items[j] items2[j] (e j)) ∧ (∀ j (h1 : j < items.size) (h2 : j < items2.size), e j = false → RcLtAt A.in1 s items[j] items2[j] (r j)) ∧
        R (.ok (.ret (.bool (lexB e r (decide (items.size < items2.size)) (List.range (min items.size items2.size)))))) s) :=
  .of_wp fun prog w A R s h => by
    obtain ⟨hp, g, d, tk, os⟩ := s; obtain ⟨hl, hb, he, hr, h⟩ := h
    have f2 := AutoSeq1.sub_tuple_tuple
    have hZ : (items.toList.zip items2.toList).length = min items.size items2.size := by simp
    wp_walk using wpAny_loadPart' hl, wpAny_loadPart' hb, wpAny_forIn_list _ (fun rest b s' => b.1 = none ∧ s' = ⟨hp, g, d, tk, os⟩ ∧ ∃ i, rest = (items.toList.zip items2.toList).drop i ∧
      R (.ok (.ret (.bool (lexB e r (decide (items.size < items2.size)) ((List.range (min items.size items2.size)).drop i))))) ⟨hp, g, d, tk, os⟩) _
    case turn =>
      rintro ⟨y, x⟩ rest b s' ⟨hb', rfl, i, hz, hR⟩
      have hlt : i < (items.toList.zip items2.toList).length := by
        rcases Nat.lt_or_ge i (items.toList.zip items2.toList).length with h' | h'
        · exact h'
        · rw [List.drop_of_length_le h'] at hz; cases hz
      have hm : i < min items.size items2.size := hZ ▸ hlt
      have h1 : i < items.size := Nat.lt_of_lt_of_le hm (Nat.min_le_left _ _)
      have h2 : i < items2.size := Nat.lt_of_lt_of_le hm (Nat.min_le_right _ _)
      rw [List.drop_eq_getElem_cons hlt] at hz
      injection hz with hyx hrest
      have hy : y = items[i] := by have := congrArg Prod.fst hyx; simpa using this
      have hx : x = items2[i] := by have := congrArg Prod.snd hyx; simpa using this
      subst hy hx
      have hd : (List.range (min items.size items2.size)).drop i = i :: (List.range (min items.size items2.size)).drop (i + 1) := by simp [List.drop_eq_getElem_cons, hm]
      rw [hd, lexB] at hR
      refine wpAny_bind (he i h1 h2 prog w _ _ ?_)
      cases hy : e i with
      | true =>
        rw [hy, if_pos rfl] at hR
        wp_walk
        exact ⟨rfl, rfl, i + 1, hrest, hR⟩
      | false =>
        rw [hy, if_neg (by decide)] at hR
        rw [show (!false) = true from rfl, if_pos rfl]
        refine wpAny_bind (wpAny_rule (wpAny_bind (hr i h1 h2 hy prog w _ _ ?_)))
        wp_walk
        exact ⟨_, rfl, hR⟩
    case fin =>
      rintro ⟨b1, b2⟩ s' ⟨hb', rfl, i, hz, hR⟩
      simp only at hb'
      subst hb'
      have hge : min items.size items2.size ≤ i := by
        rcases Nat.lt_or_ge i (items.toList.zip items2.toList).length with h' | h'
        · rw [List.drop_eq_getElem_cons h'] at hz; cases hz
        · exact hZ ▸ h'
      rw [List.drop_of_length_le (by simpa using hge)] at hR
      wp_walk
      exact ⟨_, rfl, hR⟩
    case h =>
      exact ⟨rfl, rfl, 0, rfl, by simpa using h⟩
section
variable {A : Around} {s : Shared}
theorem RcLtAt.lists {l b : Addr} {items items2 : Array Value} {e r : Nat → Bool} (hl : s.heap.IsList l items) (hb : s.heap.IsList b items2) (hu : A.units < cLine)
    (he : ∀ j (h1 : j < items.size) (h2 : j < items2.size), EqAt A.in1 s items[j] items2[j] (e j)) (hr : ∀ j (h1 : j < items.size) (h2 : j < items2.size), e j = false → RcLtAt A.in1 s items[j] items2[j] (r j)) : RcLtAt A s (.ref l) (.ref b) (lexB e r (decide (items.size < items2.size)) (List.range (min items.size items2.size))) := fun prog w E Q h => by
  obtain ⟨⟨cls, dd, data, sl⟩, ho, hc, n, hd⟩ := id hl
  obtain ⟨⟨cls2, dd2, data2, sl2⟩, ho2, hc2, n2, hd2⟩ := id hb
  simp only at hc hd hc2 hd2
  subst hc hd hc2 hd2
  exact richCompare_meets_room (op := .Lt) ⟨_, ho, rfl⟩ ⟨_, ho2, rfl⟩ F.slot_list_lt F.entry_list_lt (F.args_list_lt_2 _ _) (list_ltAt l b items items2 n n2 dd dd2 sl sl2 e r)
    ⟨ho, ho2, he, hr, show Value.bool _ ≠ Value.notImplemented ∧ Q (.bool _) s from ⟨(fun x => nomatch x), h⟩⟩ hu
theorem RcLtAt.tuples {l b : Addr} {items items2 : Array Value} {e r : Nat → Bool} (hl : s.heap.IsTuple l items) (hb : s.heap.IsTuple b items2) (hu : A.units < cLine)
    (he : ∀ j (h1 : j < items.size) (h2 : j < items2.size), EqAt A.in1 s items[j] items2[j] (e j)) (hr : ∀ j (h1 : j < items.size) (h2 : j < items2.size), e j = false → RcLtAt A.in1 s items[j] items2[j] (r j)) : RcLtAt A s (.ref l) (.ref b) (lexB e r (decide (items.size < items2.size)) (List.range (min items.size items2.size))) := fun prog w E Q h => by
  obtain ⟨⟨cls, dd, data, sl⟩, ho, hc, n, hd⟩ := id hl
  obtain ⟨⟨cls2, dd2, data2, sl2⟩, ho2, hc2, n2, hd2⟩ := id hb
  simp only at hc hd hc2 hd2
  subst hc hd hc2 hd2
  exact richCompare_meets_room (op := .Lt) ⟨_, ho, rfl⟩ ⟨_, ho2, rfl⟩ F.slot_tuple_lt F.entry_tuple_lt (F.args_tuple_lt_2 _ _) (tuple_ltAt l b items items2 n n2 dd dd2 sl sl2 e r)
    ⟨ho, ho2, he, hr, show Value.bool _ ≠ Value.notImplemented ∧ Q (.bool _) s from ⟨(fun x => nomatch x), h⟩⟩ hu
theorem RcLtAt.ints (i j : Int) (t u : Tok) : RcLtAt A s (.int i t) (.int j u) (decide (i < j)) := fun prog w E Q h => PyProof.Rows.lt_int h
theorem RcLtAt.strs (x y : Str) (t u : Tok) : RcLtAt A s (.str x t) (.str y u) (decide (x.cps.toList < y.cps.toList)) := fun prog w E Q h => PyProof.Rows.lt_str h
end
end PL
namespace PL
open PySem PySem.SeqAt L2 Nh
noncomputable abbrev LtF := PyData → PyData → Option Bool
noncomputable def ltS : LtF
  | .int i, .int j => some (decide (i < j))
  | .str a, .str b => some (decide (a.cps.toList < b.cps.toList))
  | _, _ => none
noncomputable def ltLx (lt : LtF) : List PyData → List PyData → Option Bool
  | [], ys => some (!ys.isEmpty)
  | _ :: _, [] => some false
  | x :: xs, y :: ys => if PyData.eqv x y then ltLx lt xs ys else (lt x y).bind fun b => (ltLx lt xs ys).map fun _ => b
noncomputable def ltU (lt : LtF) : LtF
  | .list xs, .list ys => ltLx lt xs ys
  | .tuple xs, .tuple ys => ltLx lt xs ys
  | d, e => ltS d e
noncomputable def eF (xs ys : List PyData) (j : Nat) : Bool := match xs[j]?, ys[j]? with
  | some x, some y => PyData.eqv x y
  | _, _ => true
noncomputable def rF (lt : LtF) (xs ys : List PyData) (j : Nat) : Bool := match xs[j]?, ys[j]? with
  | some x, some y => (lt x y).getD false
  | _, _ => false
theorem ltLx_all {lt : LtF} : ∀ {xs ys : List PyData} {c : Bool}, ltLx lt xs ys = some c → ∀ (j : Nat) {x y : PyData}, xs[j]? = some x → ys[j]? = some y → PyData.eqv x y = false → ∃ b, lt x y = some b
  | [], _, _, _, _, _, _, h, _, _ => by simp at h
  | _ :: _, [], _, _, _, _, _, _, h, _ => by simp at h
  | a :: xs, b :: ys, c, e, j, x, y, hx, hy, hn => by
    unfold ltLx at e
    by_cases q : PyData.eqv a b = true
    · rw [if_pos q] at e
      cases j with
      | zero =>
        simp at hx hy
        subst hx hy
        rw [q] at hn
        cases hn
      | succ j => exact ltLx_all e j (by simpa using hx) (by simpa using hy) hn
    · rw [if_neg q] at e
      obtain ⟨d, e1, e⟩ := Option.bind_eq_some_iff.mp e
      obtain ⟨d', e2, e⟩ := Option.map_eq_some_iff.mp e
      cases j with
      | zero =>
        simp at hx hy
        subst hx hy
        exact ⟨d, e1⟩
      | succ j => exact ltLx_all e2 j (by simpa using hx) (by simpa using hy) hn
theorem lexB_map (e r : Nat → Bool) (fin : Bool) (f : Nat → Nat) : ∀ l : List Nat, lexB e r fin (l.map f) = lexB (fun j => e (f j)) (fun j => r (f j)) fin l
  | [] => rfl
  | j :: l => by simp [lexB, lexB_map e r fin f l]
theorem lexB_ltLx {lt : LtF} : ∀ {xs ys : List PyData} {c : Bool}, ltLx lt xs ys = some c → lexB (eF xs ys) (rF lt xs ys) (decide (xs.length < ys.length)) (List.range (min xs.length ys.length)) = c
  | [], [], c, e => by cases e; rfl
  | [], y :: ys, c, e => by cases e; simp [lexB]
  | x :: xs, [], c, e => by cases e; simp [lexB]
  | x :: xs, y :: ys, c, e => by
    unfold ltLx at e
    have hm : min (x :: xs).length (y :: ys).length = min xs.length ys.length + 1 := by simp only [List.length_cons]; omega
    rw [hm, List.range_succ_eq_map, lexB, lexB_map]
    have e0 : eF (x :: xs) (y :: ys) 0 = PyData.eqv x y := rfl
    have r0 : rF lt (x :: xs) (y :: ys) 0 = (lt x y).getD false := rfl
    have e1 : (fun j => eF (x :: xs) (y :: ys) (Nat.succ j)) = eF xs ys := by funext j; simp [eF]
    have r1 : (fun j => rF lt (x :: xs) (y :: ys) (Nat.succ j)) = rF lt xs ys := by funext j; simp [rF]
    have hl : decide ((x :: xs).length < (y :: ys).length) = decide (xs.length < ys.length) := by simp
    rw [e0, r0, e1, r1, hl]
    by_cases q : PyData.eqv x y = true
    · rw [if_pos q] at e ⊢
      exact lexB_ltLx e
    · rw [if_neg q] at e ⊢
      obtain ⟨d, e2, e⟩ := Option.bind_eq_some_iff.mp e
      obtain ⟨d', e3, e⟩ := Option.map_eq_some_iff.mp e
      cases e
      rw [e2]
      rfl
noncomputable def LtOk (k : Nat) (lt : LtF) : Prop := ∀ (da db : PyData) (A : Around) (s : Shared) (a b : Value) (as bs : List Addr) (c : Bool), Reads s.heap a da as → Reads s.heap b db bs → da.canLay0 = true → db.canLay0 = true → A.units + 64 + k < cLine → da.depth ≤ 64 → lt da db = some c → RcLtAt A s a b c
theorem ltS_ok : LtOk 0 ltS := fun da db A s a b as bs c ra rb _ _ _ _ e => by
  unfold ltS at e
  split at e
  · cases e; cases ra; cases rb; exact RcLtAt.ints _ _ _ _
  · cases e; cases ra; cases rb; exact RcLtAt.strs _ _ _ _
  · cases e
theorem depth_mem : ∀ {xs : List PyData} {x : PyData}, x ∈ xs → x.depth ≤ PyData.depthAll xs
  | y :: ys, x, h => by
    show x.depth ≤ max y.depth (PyData.depthAll ys)
    rcases List.mem_cons.mp h with rfl | h
    · omega
    · have := depth_mem h
      omega
theorem items_ok {k : Nat} {lt : LtF} (hk : LtOk k lt) {A : Around} {s : Shared} {vs ws : List Value} {xs ys : List PyData} {as bs : List Addr} {c : Bool} (ra : ReadsAll s.heap vs xs as) (rb : ReadsAll s.heap ws ys bs) (ca : PyData.canLayAll0 xs = true) (cb : PyData.canLayAll0 ys = true)
    (hu : A.units + 64 + (k + 1) < cLine) (hd : PyData.depthAll xs ≤ 63) (e : ltLx lt xs ys = some c) :
    (∀ j (h1 : j < vs.length) (h2 : j < ws.length), EqAt A.in1 s vs[j] ws[j] (eF xs ys j)) ∧ (∀ j (h1 : j < vs.length) (h2 : j < ws.length), eF xs ys j = false → RcLtAt A.in1 s vs[j] ws[j] (rF lt xs ys j)) ∧ vs.length = xs.length ∧ ws.length = ys.length := by
  have len : ∀ {vs : List Value} {xs : List PyData} {as : List Addr}, ReadsAll s.heap vs xs as → vs.length = xs.length := fun {vs xs as} h => by
    induction vs generalizing xs as with
    | nil => cases h; rfl
    | cons v vs ih => cases h with | cons h t => simp [ih t]
  have l1 := len ra
  have l2 := len rb
  have got : ∀ j (h1 : j < vs.length) (h2 : j < ws.length), ∃ x y cs ds, xs[j]? = some x ∧ ys[j]? = some y ∧ Reads s.heap vs[j] x cs ∧ Reads s.heap ws[j] y ds ∧ x.canLay0 = true ∧ y.canLay0 = true ∧ x.depth ≤ 63 := fun j h1 h2 => by
    obtain ⟨v, cs, ev, rv⟩ := ra.atAny j xs[j] (List.getElem?_eq_getElem (by omega))
    obtain ⟨w, ds, ew, rw'⟩ := rb.atAny j ys[j] (List.getElem?_eq_getElem (by omega))
    rw [List.getElem?_eq_getElem h1] at ev
    rw [List.getElem?_eq_getElem h2] at ew
    cases ev; cases ew
    exact ⟨_, _, cs, ds, List.getElem?_eq_getElem (by omega), List.getElem?_eq_getElem (by omega), rv, rw', PyData.canLay0_of_mem _ _ ca (List.getElem_mem _), PyData.canLay0_of_mem _ _ cb (List.getElem_mem _), Nat.le_trans (depth_mem (List.getElem_mem _)) hd⟩
  refine ⟨fun j h1 h2 => ?_, fun j h1 h2 en => ?_, l1, l2⟩
  · obtain ⟨x, y, cs, ds, ex, ey, rx, ry, cx, cy, dx⟩ := got j h1 h2
    have q := eqAt_reads x y A.in1 s _ _ cs ds rx ry cx cy (by show A.units + 1 + min x.depth y.depth < cLine; omega)
    unfold eF
    rw [ex, ey]
    exact q
  · obtain ⟨x, y, cs, ds, ex, ey, rx, ry, cx, cy, dx⟩ := got j h1 h2
    unfold eF at en
    rw [ex, ey] at en
    obtain ⟨b, eb⟩ := ltLx_all e j ex ey en
    unfold rF
    rw [ex, ey]
    show RcLtAt A.in1 s _ _ ((lt x y).getD false)
    rw [eb]
    exact hk x y A.in1 s _ _ cs ds b rx ry cx cy (by show A.units + 1 + 64 + k < cLine; omega) (by omega) eb
theorem ltU_ok {k : Nat} {lt : LtF} (hk : LtOk k lt) : LtOk (k + 1) (ltU lt) := fun da db A s a b as bs c ra rb ca cb hu hd e => by
  unfold ltU at e
  split at e
  · rename_i xs ys
    cases ra with
    | list g1 c1 d1 r1 =>
      rename_i a1 o1 vs n1 as1
      cases rb with
      | list g2 c2 d2 r2 =>
        rename_i a2 o2 ws n2 as2
        obtain ⟨q1, q2, q3, q4⟩ := items_ok hk r1 r2 (by simpa [PyData.canLay0] using ca) (by simpa [PyData.canLay0] using cb) hu (by have : PyData.depthAll xs + 1 ≤ 64 := hd; omega) e
        have := RcLtAt.lists (A := A) (s := s) (l := a1) (b := a2) (items := vs) (items2 := ws) (e := eF xs ys) (r := rF lt xs ys) ⟨_, g1, c1, _, d1⟩ ⟨_, g2, c2, _, d2⟩ (by omega) (fun j h1 h2 => q1 j (by simpa using h1) (by simpa using h2)) (fun j h1 h2 en => q2 j (by simpa using h1) (by simpa using h2) en)
        have z1 : vs.size = xs.length := by simpa using q3
        have z2 : ws.size = ys.length := by simpa using q4
        rw [z1, z2, lexB_ltLx e] at this
        exact this
  · rename_i xs ys
    cases ra with
    | tuple g1 c1 d1 r1 =>
      rename_i a1 o1 vs n1
      cases rb with
      | tuple g2 c2 d2 r2 =>
        rename_i a2 o2 ws n2
        obtain ⟨q1, q2, q3, q4⟩ := items_ok hk r1 r2 (by simpa [PyData.canLay0] using ca) (by simpa [PyData.canLay0] using cb) hu (by have : PyData.depthAll xs + 1 ≤ 64 := hd; omega) e
        have := RcLtAt.tuples (A := A) (s := s) (l := a1) (b := a2) (items := vs) (items2 := ws) (e := eF xs ys) (r := rF lt xs ys) ⟨_, g1, c1, _, d1⟩ ⟨_, g2, c2, _, d2⟩ (by omega) (fun j h1 h2 => q1 j (by simpa using h1) (by simpa using h2)) (fun j h1 h2 en => q2 j (by simpa using h1) (by simpa using h2) en)
        have z1 : vs.size = xs.length := by simpa using q3
        have z2 : ws.size = ys.length := by simpa using q4
        rw [z1, z2, lexB_ltLx e] at this
        exact this
  · exact ltS_ok da db A s a b as bs c ra rb ca cb (by omega) hd e
noncomputable def lt2 : LtF := ltU (ltU ltS)
theorem lt2_ok : LtOk 2 lt2 := ltU_ok (ltU_ok ltS_ok)
end PL
namespace PL
open PySem PySem.SeqAt L2 Nh
noncomputable def dLt : PyData → PyData → Option PyData
  | .int i, .int j => some (.bool (decide (i < j)))
  | .str x, .str y => some (.bool (decide (x.cps.toList < y.cps.toList)))
  | d, e => if shaped d && shaped e then (lt2 d e).map fun c => .bool c else none
noncomputable def rLtD (K : PySem.W.Frag) : R2 := fun x y H Q => ∃ d e c, DOf K H x d ∧ DOf K H y e ∧ shaped d = true ∧ shaped e = true ∧ lt2 d e = some c ∧ Q (.bl c) H
theorem op_ltD {X : Cx} (hu : X.A.units + 70 < cLine) : OpR X (compareOp .Lt) (rLtD X.K) := by
  intro pins s σ H x y v u Q I rx ry h
  obtain ⟨d, e, c, hd, he, s1, s2, el, q⟩ := h
  obtain ⟨as, ra⟩ := hd.reads I rx
  obtain ⟨bs, rb⟩ := he.reads I ry
  exact lt2_ok d e X.A s v u as bs c ra rb (canLay_of_shaped s1) (canLay_of_shaped s2) (by omega) (depth_of_shaped s1) el X.prog X.w X.xe _ ⟨.bl _, H, I, rfl, q⟩
noncomputable abbrev rLtU (K : PySem.W.Frag) : R2 := fun x y H Q => rCm .lt x y H Q ∨ rLtD K x y H Q
theorem lt_ok {K : PySem.W.Frag} : ScOk K (rLtU K) dLt := fun d1 d2 d v1 v2 H Q e r1 r2 => by
  unfold dLt at e
  split at e
  · cases e; cases r1; cases r2
    exact ⟨_, rfl, fun q => .inl (.inl ⟨_, _, rfl, rfl, q⟩)⟩
  · cases e; cases r1; cases r2
    exact ⟨_, rfl, fun q => .inl (.inr ⟨_, _, rfl, rfl, q⟩)⟩
  · split at e
    · rename_i hs
      simp only [Bool.and_eq_true] at hs
      obtain ⟨c, ec, rfl⟩ := Option.map_eq_some_iff.mp e
      exact ⟨_, rfl, fun q => .inr ⟨_, _, c, r1.dof hs.1, r2.dof hs.2, hs.1, hs.2, ec, q⟩⟩
    · cases e
section
variable {X : Cx} {a b : Expr} {m1 m2 : Bool} {f g : PEv} {pos : Pos}
theorem xt_ltU (hu : X.A.units + 70 < cLine) (ha : EX X a m1 f) (hb : EX X b m2 g) : TX X (.Compare a [.Lt] [b] pos) (m1 || m2) (isB (pBin (sc2 dLt) m2 f g)) := xt_cmp (OpR.or (op_cm .lt) (op_ltD hu)) (sc2_ok lt_ok) ha hb (nomark _)
end
end PL
theorem L2.Room.units2 {k : Nat} {A : PySem.Around} (r : L2.Room k A) : A.units + 70 < PySem.cLine := by
  have := r.un
  have h : (PySem.cLine : Nat) = PySem.cLine := rfl
  omega
namespace PL
open PySem L2 Nh
noncomputable def boolsOf : List PyData → Option (List Bool)
  | [] => some []
  | .bool b :: ds => (boolsOf ds).map (b :: ·)
  | _ => none
noncomputable def dAny : List PyData → Option PyData
  | [.list ds] => (boolsOf ds).map fun bs => .bool (bs.any id)
  | _ => none
noncomputable def dAll : List PyData → Option PyData
  | [.list ds] => (boolsOf ds).map fun bs => .bool (bs.all id)
  | _ => none
section
variable {X : Cx} {e : Expr} {es : List Expr} {m1 : Bool} {g : PAv} {p pos : Pos}
noncomputable def intsL : List PyData → Option (List Int)
  | [] => some []
  | .int i :: ds => (intsL ds).map (i :: ·)
  | _ => none
noncomputable def dSum : List PyData → Option PyData
  | [.list ds] => (intsL ds).map fun ns => .int ns.sum
  | _ => none
theorem ints_rp {K : PySem.W.Frag} {H : Hp} : ∀ {vs : List V} {ds : List PyData} {bs : List Int}, RpA K H vs ds → intsL ds = some bs → vs = bs.map V.int
  | _, _, bs, .nil, e => by cases e; rfl
  | _, _, bs, .cons (d := d) h t, e => by
    cases d <;> simp [intsL] at e
    obtain ⟨cs, e, rfl⟩ := e
    cases h
    rw [ints_rp t e]
    rfl
theorem vals_ints : ∀ {ns : List Int} {us : List Value}, Vals (ns.map V.int) us → us.length = ns.length ∧ ∀ (i : Nat) (v : Value), us[i]? = some v → ∃ t, v = Value.int (ns.getD i 0) t
  | [], _, .nil => ⟨rfl, fun i v h => by simp at h⟩
  | n :: ns, _, .cons h t => by
    obtain ⟨tk, rfl⟩ := h
    obtain ⟨h1, h2⟩ := vals_ints t
    refine ⟨by simp [h1], fun i v h => ?_⟩
    cases i with
    | zero => simp at h; subst h; exact ⟨tk, rfl⟩
    | succ i => simpa using h2 i v (by simpa using h)
end
end PL
namespace PL
open PySem L2 Nh
noncomputable def but (H : Hp) (l : Addr) : Hp := fun b => if b = l then none else H b
theorem but_ne {H : Hp} {l b : Addr} (h : b ≠ l) : but H l b = H b := if_neg h
theorem but_at {H : Hp} {l : Addr} : but H l l = none := if_pos rfl
theorem but_same (H : Hp) (l : Addr) : Same (but H l) H := fun b o e => by
  by_cases h : b = l
  · subst h; rw [but_at] at e; cases e
  · rw [but_ne h] at e; exact e
theorem tups_but {H : Hp} {l : Addr} {us : List V} (h : H l = some (.lst us)) : Same (tups H) (but H l) := fun b o e => by
  obtain ⟨z1, z2⟩ := Option.filter_eq_some_iff.mp e
  by_cases hb : b = l
  · subst hb; rw [h] at z1; cases z1; cases z2
  · rw [but_ne hb]; exact z1
noncomputable def spI (K : PySem.W.Frag) (c : List PyData → List PyData → Option (List PyData)) : Sp := fun vs H Q _ => ∃ l us ds0 rest ds ds', vs = .ref l :: rest ∧ H l = some (.lst us) ∧ RpA K (but H l) us ds0 ∧ RpA K (but H l) rest ds ∧ c ds0 ds = some ds' ∧
  ∀ H' us', SameBut l H H' → H' l = some (.lst us') → RpA K (tups H') us' ds' → Q .non H'
noncomputable def pairsI : List PyData → Option (List (Int × Int))
  | [] => some []
  | .tuple [.int a, .int b] :: r => (pairsI r).map fun ps => (a, b) :: ps
  | _ => none
noncomputable def addAll (sg : List Int) : List (Int × Int) → List Int → Option (List Int)
  | [], ns => some ns
  | p :: r, ns => match atI ns p.1, atI sg p.2, atI ns (p.1 - p.2), ixN ns.length p.1 with
    | some x, some y, some z, some j => if okMul y z then addAll sg r (ns.set j (x + y * z)) else none
    | _, _, _, _ => none
noncomputable def fnAdd : List PyData → List PyData → Option (List PyData) := fun ds0 ds => match ds with
  | [.list cs, .list ss] => (intsL ds0).bind fun ns => (intsL ss).bind fun sg => (pairsI cs).bind fun ps => (addAll sg ps ns).map fun r => r.map .int
  | _ => none
section
variable {K : PySem.W.Frag}
theorem atI_map {α β : Type} (f : α → β) {xs : List α} {i : Int} {v : α} (h : atI xs i = some v) : atI (xs.map f) i = some (f v) := by
  unfold atI at h ⊢
  rw [List.length_map]
  obtain ⟨j, e1, e2⟩ := Option.bind_eq_some_iff.mp h
  rw [e1, Option.bind_some, List.getElem?_map, e2]
  rfl
theorem pairs_rp {H : Hp} : ∀ {cs : List PyData} {ps : List (Int × Int)} {vs : List V}, pairsI cs = some ps → RpA K H vs cs → vs.length = ps.length ∧ ∀ (i : Nat) (p : Int × Int), ps[i]? = some p → ∃ t, vs[i]? = some (V.ref t) ∧ SqT K H t [.int p.1, .int p.2]
  | [], ps, _, e, .nil => by cases e; exact ⟨rfl, fun i p h => by simp at h⟩
  | c :: cs, ps, _, e, .cons (x := v) h r => by
    unfold pairsI at e
    split at e
    · cases ‹c :: cs = []›
    · rename_i a b r' ec
      cases ec
      obtain ⟨ps', e1, rfl⟩ := Option.map_eq_some_iff.mp e
      obtain ⟨l1, l2⟩ := pairs_rp e1 r
      cases h with
      | tup h1 h2 =>
        cases h2 with
        | cons x1 y1 =>
          cases y1 with
          | cons x2 y2 =>
            cases y2
            cases x1
            cases x2
            refine ⟨by simp [l1], fun i p hp => ?_⟩
            cases i with
            | zero => simp at hp; subst hp; exact ⟨_, rfl, h1⟩
            | succ i => simpa using l2 i p (by simpa using hp)
    · cases e
theorem addSem {sg : List Int} {ps : List (Int × Int)} {ns : List Int} {r : List Int} {l lc ls : Addr} {vs : List V} {H : Hp} {x0 x1 : Option V} (hl : H l = some (.lst (ns.map .int))) (hc : SqL K (but H l) lc vs) (hs : SqL K (but H l) ls (sg.map .int)) (hlen : vs.length = ps.length)
    (hp : ∀ (i : Nat) (p : Int × Int), ps[i]? = some p → ∃ t, vs[i]? = some (V.ref t) ∧ SqT K (but H l) t [.int p.1, .int p.2]) (e : addAll sg ps ns = some r) {D : Ends} (hD : ∀ σ H', SameBut l H H' → H' l = some (.lst (r.map .int)) → D.nx σ H') :
    tFor (iList K (tVar 1)) (gTup K 2 (gCons (gName 3) (gCons (gName 4) gNil)))
      (tAsg (tOp (rAddU K) (tOp (rIxL K) (tVar 0) (tVar 3)) (tOp (rMulU K) (tOp (rIxL K) (tVar 2) (tVar 4)) (tOp (rIxL K) (tVar 0) (tOp (rIC (fun _ _ => true) fun i j => .int (i - j)) (tVar 3) (tVar 4))))) (gSub (tVar 0) (tVar 3) rSetL)) D [some (.ref l), some (.ref lc), some (.ref ls), x0, x1] H := by
  have up : ∀ {H' : Hp}, SameBut l H H' → Same (but H l) H' := fun sb b o q => by
    by_cases hb : b = l
    · subst hb; rw [but_at] at q; cases q
    · rw [but_ne hb] at q; exact sb b o hb q
  refine ⟨_, rfl, lc, rfl, ⟨vs, (but_same H l).seq hc⟩, ?_⟩
  refine for_list (xs := vs) (fun i σ H' => SameBut l H H' ∧ (∃ x0 x1, σ = [some (.ref l), some (.ref lc), some (.ref ls), x0, x1]) ∧ ∃ ms, H' l = some (.lst (ms.map .int)) ∧ addAll sg (ps.drop i) ms = some r) ⟨fun b o _ q => q, ⟨x0, x1, rfl⟩, ns, hl, by simpa using e⟩ (fun i σ H' _ h => (up h.1).seq hc) (fun i v σ H' hv h => ?_) fun σ H' h => ?_
  · obtain ⟨sb, ⟨y0, y1, rfl⟩, ms, hm, ea⟩ := h
    have hi : i < ps.length := by
      rw [← hlen]
      exact (List.getElem?_eq_some_iff.mp hv).1
    obtain ⟨t, ht, hq⟩ := hp i ps[i] (List.getElem?_eq_getElem hi)
    rw [hv] at ht
    cases ht
    rw [List.drop_eq_getElem_cons hi, addAll] at ea
    split at ea
    · rename_i x y z j e1 e2 e3 e4
      split at ea
      · rename_i hk
        refine ⟨t, _, rfl, (up sb).tup hq, rfl, _, _, rfl, _, _, rfl, rfl, ?_⟩
        refine ⟨_, rfl, _, rfl, l, _, _, _, rfl, rfl, SqL.of hm, atI_map _ e1, ?_⟩
        refine ⟨_, rfl, _, rfl, ls, _, _, _, rfl, rfl, (up sb).seq hs, atI_map _ e2, ?_⟩
        refine ⟨_, rfl, _, rfl, _, rfl, _, _, rfl, rfl, rfl, ?_⟩
        refine ⟨l, _, _, _, rfl, rfl, SqL.of hm, atI_map _ e3, ?_⟩
        refine .inl ⟨_, _, rfl, rfl, hk, ?_⟩
        refine .inl ⟨_, _, rfl, rfl, ?_⟩
        refine ⟨_, rfl, _, rfl, l, _, _, j, rfl, rfl, hm, by rw [List.length_map]; exact e4, ?_⟩
        refine ⟨sb.trans (SameBut.upd _), ⟨_, _, rfl⟩, ms.set j (x + y * z), ?_, ea⟩
        rw [upd_same, List.map_set]
      · cases ea
    · cases ea
  · obtain ⟨sb, _, ms, hm, ea⟩ := h
    rw [hlen, List.drop_length] at ea
    cases ea
    exact hD _ _ sb hm
end
theorem spI_len {K : PySem.W.Frag} {vs : List V} {H : Hp} {Q : VK} {E : XK} (h : spI K fnAdd vs H Q E) : vs.length = 3 := by
  obtain ⟨l, us, ds0, rest, ds, ds', rfl, hl, r0, rr, e, _⟩ := h
  unfold fnAdd at e
  split at e
  · rw [List.length_cons, rr.len]; rfl
  · cases e
theorem ints_rpa {K : PySem.W.Frag} {H : Hp} : ∀ ns : List Int, RpA K H (ns.map V.int) (ns.map PyData.int)
  | [] => .nil
  | n :: ns => .cons (.int n) (ints_rpa ns)
theorem flatA_ints : ∀ ns : List Int, flatA (ns.map PyData.int) = true
  | [] => rfl
  | n :: ns => by simp [flatA, flat, flatA_ints ns]
theorem spI_run {K : PySem.W.Frag} {vs : List V} {H : Hp} {Q : VK} {E : XK} {D : Ends} {N : List Str} (h : spI K fnAdd vs H Q E) (hD : ∀ σ H', Q .non H' → D.nx σ H' := by intro _ _ h; exact h) (hN : N.length = 5 := by rfl) :
    tFor (iList K (tVar 1)) (gTup K 2 (gCons (gName 3) (gCons (gName 4) gNil)))
      (tAsg (tOp (rAddU K) (tOp (rIxL K) (tVar 0) (tVar 3)) (tOp (rMulU K) (tOp (rIxL K) (tVar 2) (tVar 4)) (tOp (rIxL K) (tVar 0) (tOp (rIC (fun _ _ => true) fun i j => .int (i - j)) (tVar 3) (tVar 4))))) (gSub (tVar 0) (tVar 3) rSetL)) D (L2.start N vs) H := by
  obtain ⟨l, us, ds0, rest, ds, ds', rfl, hl, r0, rr, e, q⟩ := h
  unfold fnAdd at e
  split at e
  · rename_i cs ss
    obtain ⟨ns, e1, e⟩ := Option.bind_eq_some_iff.mp e
    obtain ⟨sg, e2, e⟩ := Option.bind_eq_some_iff.mp e
    obtain ⟨ps, e3, e⟩ := Option.bind_eq_some_iff.mp e
    obtain ⟨r, e4, rfl⟩ := Option.map_eq_some_iff.mp e
    have := ints_rp r0 e1
    subst this
    cases rr with
    | cons r1 rr =>
      cases rr with
      | cons r2 rr =>
        cases rr
        cases r1 with
        | lst c1 c2 =>
          cases r2 with
          | lst s1 s2 =>
            have := ints_rp s2 e2
            subst this
            obtain ⟨p1, p2⟩ := pairs_rp e3 c2
            have hst : ∀ vs : List V, vs.length = 3 → L2.start N vs = vs.map some ++ [none, none] := fun vs hv => by unfold L2.start; rw [hN, hv]; rfl
            rw [hst _ rfl]
            exact addSem hl c1 s1 p1 p2 e4 fun σ H' sb hl' => hD σ H' (q H' _ sb hl' (ints_rpa r))
  · cases e
noncomputable def pIO3 (i j : Nat) (fk f3 : PEv) (c : List PyData → List PyData → Option (List PyData)) : PSv := fun E => match E[i]?, E[j]? with
  | some (.ow ds0), some (.od kvs) => if flatA ds0 then (fk (frzAll E)).bind fun a => match a.1 with
    | .sh kd => (keyOf kd).bind fun k => (getDl kvs k).bind fun dsj => (f3 (frzAll E)).bind fun b => match b.1 with
      | .ow ds3 => if flatA ds3 then (c ds0 [.list dsj, .list ds3]).map fun ds' => (E.set i (.ow ds'), .nx) else none
      | _ => none
    | _ => none
    else none
  | _, _ => none
theorem SAll.memA {P : Option V → Sl → List Addr → Prop} {os : List (Option V)} {ss : List Sl} {A : List Addr} {k : Nat} {s : Sl} (h : SAll P os ss A) (e : ss[k]? = some s) : ∃ o A1, os[k]? = some o ∧ P o s A1 ∧ ∀ a ∈ A1, a ∈ A := by
  obtain ⟨o, A0, A1, A2, eA, eo, hp, _⟩ := h.at e
  exact ⟨o, A1, eo, hp, fun a ha => by rw [eA]; exact List.mem_append_right _ (List.mem_append_left _ ha)⟩
theorem SAll.two {P : Option V → Sl → List Addr → Prop} : ∀ {os : List (Option V)} {ss : List Sl} {A : List Addr} {i j : Nat} {s t : Sl}, SAll P os ss A → ss[i]? = some s → ss[j]? = some t → i ≠ j → A.Nodup →
    ∃ o1 A1 o2 A2, os[i]? = some o1 ∧ P o1 s A1 ∧ os[j]? = some o2 ∧ P o2 t A2 ∧ (∀ a ∈ A1, a ∈ A) ∧ (∀ a ∈ A2, a ∈ A) ∧ ∀ a ∈ A1, a ∉ A2
  | _, _, _, _, _, _, _, .nil, e, _, _, _ => by simp at e
  | _, _, _, 0, 0, _, _, .cons h r, _, _, n, _ => absurd rfl n
  | _, _, _, 0, j + 1, s, t, .cons (o := o) (A := A) (B := B) h r, e1, e2, _, nd => by
    simp at e1
    subst e1
    obtain ⟨o2, A2, eo, hp, sub⟩ := r.memA (k := j) (by simpa using e2)
    exact ⟨o, A, o2, A2, rfl, h, by simpa using eo, hp, fun a ha => List.mem_append_left _ ha, fun a ha => List.mem_append_right _ (sub a ha), fun a ha hb => (List.nodup_append.mp nd).2.2 a ha a (sub a hb) rfl⟩
  | _, _, _, i + 1, 0, s, t, .cons (o := o) (A := A) (B := B) h r, e1, e2, _, nd => by
    simp at e2
    subst e2
    obtain ⟨o2, A2, eo, hp, sub⟩ := r.memA (k := i) (by simpa using e1)
    exact ⟨o2, A2, o, A, by simpa using eo, hp, rfl, h, fun a ha => List.mem_append_right _ (sub a ha), fun a ha => List.mem_append_left _ ha, fun a ha hb => (List.nodup_append.mp nd).2.2 a hb a (sub a ha) rfl⟩
  | _, _, _, i + 1, j + 1, s, t, .cons (o := o) (A := A) (B := B) h r, e1, e2, n, nd => by
    obtain ⟨o1, A1, o2, A2, q1, q2, q3, q4, q5, q6, q7⟩ := r.two (i := i) (j := j) (by simpa using e1) (by simpa using e2) (fun z => n (by rw [z])) (List.nodup_append.mp nd).2.1
    exact ⟨o1, A1, o2, A2, by simpa using q1, q2, by simpa using q3, q4, fun a ha => List.mem_append_right _ (q5 a ha), fun a ha => List.mem_append_right _ (q6 a ha), q7⟩
section
variable {X : Cx} {ek e3 : Expr} {mk m3 : Bool} {fk f3 : PEv} {x y z : Str} {p p2 p3 sp pos spos : Pos}
theorem ix_dictL (hu : X.A.units + 1 < cLine) : IxR X (fun x y H Q => ∃ a kvs k lj, x = .ref a ∧ y = kV k ∧ H a = some (.dK kvs) ∧ valV kvs k = some (.ref lj) ∧ Q (.ref lj) H) := by
  intro value slice pins s σ H x y v u Q I rx ry h hs
  obtain ⟨a, kvs, k, lj, rfl, rfl, e, ev, q⟩ := h
  cases rx
  exact PyProof.Rows.subscriptTail_builtinR (x := .ref lj) (dict_typeIs I (DGet.k (k := k) e)) PySem.F.slot_dict_getitem.lookup (d_getItem hu I (by rw [← ev]; exact DGet.k e) ry fun w' s' I' r => by cases r; exact ⟨rfl, .ref lj, H, I', rfl, q⟩) hs
theorem xs_io3 (i j : Nat) {k : Nat} {ps : List Str} {c : List PyData → List PyData → Option (List PyData)} (D : Own X.prog X.w X.K X.mg X.base k x ps (spI X.K c)) (hr : Room k X.A) (hu : X.A.units + 64 < cLine) (hg : Gl X x) (hk : EX X ek mk fk) (h3 : EX X e3 m3 f3)
    (hN : X.N[i]? = some y := by rfl) (hv : Vis X.env.scope y := by first | exact Or.inl rfl | exact Or.inr (Or.inl rfl) | exact Or.inr (Or.inr rfl)) (hd : (y == ("__debug__" : Str)) = false := by decide) (hcd : (y == ("__classdict__" : Str)) = false := by decide)
    (hN' : X.N[j]? = some z := by rfl) (hv' : Vis X.env.scope z := by first | exact Or.inl rfl | exact Or.inr (Or.inl rfl) | exact Or.inr (Or.inr rfl)) (hd' : (z == ("__debug__" : Str)) = false := by decide) (hcd' : (z == ("__classdict__" : Str)) = false := by decide)
    (hpi : PlainIx ek := by intro _ _; rfl) (hdb : (x == ("__debug__" : Str)) = false := by decide)
    (hs1 : starEach [.Name y p2, .Subscript (.Name z p3) ek sp, e3] X.env = (false, eval (.Name y p2) X.env) :: starEach [.Subscript (.Name z p3) ek sp, e3] X.env := by rfl)
    (hs2 : starEach [.Subscript (.Name z p3) ek sp, e3] X.env = (false, eval (.Subscript (.Name z p3) ek sp) X.env) :: starEach [e3] X.env := by rfl) (hs3 : starEach [e3] X.env = [(false, eval e3 X.env)] := by rfl)
    (hpl : (backTo pos (starEach [.Subscript (.Name z p3) ek sp, e3] X.env)).any (·.1) = false := by rfl)
    (hsw : swapsWith (.Call (.Name x p) [.Name y p2, .Subscript (.Name z p3) ek sp, e3] [] pos) none spos.line X.env = pure false := by rfl) :
    SX X (.Expr (.Call (.Name x p) [.Name y p2, .Subscript (.Name z p3) ek sp, e3] [] pos) spos) (pIO3 i j fk f3 c) := by
  refine ps_imp (ps_expr (pe_own D hr hg (pa_cons (pe_var hN hv hd hcd) (pa_cons (pe_ix (ix_dictL (by omega)) (pe_var hN' hv' hd' hcd') hk hpi) (pa_cons h3 pa_nil hs3) hs2) hs1) hdb hs1 hpl) hsw) fun D σ H z => ?_
  obtain ⟨B, E, xs, Xs, E', fl, ⟨F, A, fr⟩, cl, e, q⟩ := z
  subst cl
  have hx : xs = [] := by simpa using fr.len
  subst hx
  unfold pIO3 at e
  split at e
  · rename_i ds0 kvs ei ej
    split at e
    · rename_i hf0
      obtain ⟨⟨s1, E1⟩, e1, e⟩ := Option.bind_eq_some_iff.mp e
      simp only at e
      split at e
      · rename_i kd
        obtain ⟨k, ekk, e⟩ := Option.bind_eq_some_iff.mp e
        obtain ⟨dsj, eg, e⟩ := Option.bind_eq_some_iff.mp e
        obtain ⟨⟨s2, E2⟩, e2, e⟩ := Option.bind_eq_some_iff.mp e
        simp only at e
        split at e
        · rename_i ds3
          split at e
          · rename_i hf3
            obtain ⟨ds', ec, e⟩ := Option.map_eq_some_iff.mp e
            cases e
            have nij : i ≠ j := fun z => by rw [z, ej] at ei; cases ei
            obtain ⟨o1, A1, o2, A2, q1, ⟨l, us, rfl, rfl, hl, r0⟩, q3, ⟨lc, uc, A2, rfl, rfl, hlc, hdl⟩, q5, q6, q7⟩ := fr.sl.two (i := i) (j := j) (by simpa using ei) (by simpa using ej) nij fr.nd
            have eo : σ[i]? = some (some (.ref l)) := by simpa using q1
            have eoc : σ[j]? = some (some (.ref lc)) := by simpa using q3
            obtain ⟨lj, vsj, evj, ljA, hlj, rj⟩ := (dl_get hdl).2 dsj eg
            have lA : l ∈ A ∧ l ∉ lc :: A2 := ⟨q5 l (by simp), q7 l (by simp)⟩
            refine ⟨_, eo, _, eoc, H, _, [], [], _, E1, ⟨H, [], fr.frzTo (Same.refl _)⟩, fun _ => (fun s hs => by cases hs), e1, fun v1 H1 ⟨F1, B1, fr1⟩ => ?_⟩
            have S1 : Same H H1 := fr1.bf.trans fr1.fh
            have r1 := (fr1.look0 (d := kd) rfl).1
            rw [keyOf_D ekk] at r1
            obtain rfl := rp_key r1
            refine ⟨lc, uc, k, lj, rfl, rfl, S1 _ _ hlc, evj, ?_⟩
            refine ⟨H1, _, [], [], _, E2, ⟨H1, [], fr.frzTo S1⟩, fun _ => (fun s hs => by cases hs), e2, fun v3 H2 ⟨F2, B2, fr2⟩ => ?_⟩
            have S2 : Same H1 H2 := fr2.bf.trans fr2.fh
            have S12 : Same H H2 := S1.trans S2
            obtain ⟨v3', C3, ev3, ⟨l3, vs3, el3, rfl, hl3, r3⟩, m3⟩ := fr2.sl.memA (k := 0) (s := .ow ds3) rfl
            cases ev3
            cases el3
            have f3n : F2 l3 = none := fr2.fr l3 (m3 l3 (by simp))
            have l3n : l3 ≠ l := fun z => by
              have := fr2.bf _ _ (S1 _ _ hl)
              rw [← z, f3n] at this
              cases this
            have hl2 := S12 _ _ hl
            have ljl : lj ≠ l := fun z => lA.2 (by rw [← z]; exact List.mem_cons_of_mem _ ljA)
            have sF : Same F (but H2 l) := fun b o qb => by
              have hb : b ≠ l := fun z => by rw [z, fr.fr l lA.1] at qb; cases qb
              rw [but_ne hb]
              exact S12 _ _ (fr.fh _ _ qb)
            refine ⟨l, us, ds0, [.ref lj, .ref l3], [.list dsj, .list ds3], ds', rfl, hl2, (((r0.same fr.fh).same S12).cold hf0).same (tups_but hl2), .cons (.lst (SqL.of (by rw [but_ne ljl]; exact S12 _ _ hlj)) (rj.same sF)) (.cons (.lst (SqL.of (by rw [but_ne l3n]; exact hl3)) (((r3.same fr2.fh).cold hf3).same (tups_but hl2))) .nil), ec, fun H' us' sb hl' r' => ?_⟩
            obtain ⟨F', fr3⟩ := fr.mutGrow ei (fun s hs => by cases hs) eo hl ((S12.but l).trans sb) hl' r'
            exact q _ _ ⟨_, _, fr3⟩
          · cases e
        · cases e
      · cases e
    · cases e
  · cases e
end
end PL
namespace PL
open PySem L2 Nh PyProof.Rows
theorem foldl_max : ∀ (r : List Int) (n : Int), n ≤ r.foldl max n ∧ (∀ a ∈ r, a ≤ r.foldl max n) ∧ (r.foldl max n = n ∨ r.foldl max n ∈ r)
  | [], n => ⟨Int.le_refl _, (fun _ h => by cases h), Or.inl rfl⟩
  | b :: r, n => by
    obtain ⟨h1, h2, h3⟩ := foldl_max r (max n b)
    rw [List.foldl_cons]
    have m1 : n ≤ max n b := by omega
    have m2 : b ≤ max n b := by omega
    refine ⟨Int.le_trans m1 h1, fun a ha => ?_, ?_⟩
    · rcases List.mem_cons.mp ha with z | z
      · rw [z]; exact Int.le_trans m2 h1
      · exact h2 a z
    · rcases h3 with z | z
      · rw [z]
        by_cases hb : b ≤ n
        · exact Or.inl (by omega)
        · exact Or.inr (by rw [show max n b = b by omega]; exact List.mem_cons_self ..)
      · exact Or.inr (List.mem_cons_of_mem _ z)
section
variable {X : Cx} {e : Expr} {es : List Expr} {m1 : Bool} {g : PAv} {p pos : Pos}
theorem ints_are : ∀ {ns : List Int} {us : List Value}, Vals (ns.map V.int) us → PyProof.Rows.IntsAre us ns
  | [], _, .nil => .nil
  | n :: ns, _, .cons h t => by
    obtain ⟨tk, rfl⟩ := h
    exact .cons n tk (ints_are t)
end
end PL
namespace NhMaxD
open PySem PyProof.Rows
theorem args_max (a d : Value) : argsOk "max" ⟨[a], [("default", d)]⟩ := by unfold argsOk; kernel_rfl
section
variable {prog : Program} {w : World} {A : Around} {E : Value → Shared → Prop} {R : Result → Shared → Prop} {I : Addr} {fp wr : List Addr} {St : Nat → Heap → Prop}
noncomputable abbrev Keeps (h : Heap) (S : Addr) (vs : Array Value) : Prop := ∃ c, h.get? S = some { cls := .type "list", dict := none, data := .seq vs c, slots := #[] }
theorem loop {ns : List Int} (W : Walks prog w A.in1 I fp wr ns.length (fun i v => ∃ t, v = .int (ns.getD i 0) t) St) (S : Addr) (hSf : S ∉ fp) (d : Value) :
    ∀ (k j : Nat) (s : Shared) (m : Int) (t : Tok), ns.length - j = k → j ≤ ns.length → St j s.heap → Keeps s.heap S #[.int m t, .int m t] →
      (∀ t' h' tk, (∀ b o, b ∉ S :: wr → s.heap.get? b = some o → h'.get? b = some o) → R (.ok (.ret (.int ((ns.drop j).foldl max m) t'))) { s with heap := h', toks := tk }) →
      codeAny (model prog w) A (.builtin "max.loop" ⟨[.ref I, .none, .ref S], [("default", d)]⟩) R s := by
  have hSw : S ∉ wr := fun h => hSf (W.sub _ h)
  have hnm : (toString "max" ++ toString ".loop" : String) = "max.loop" := by decide
  intro k
  induction k with
  | zero =>
    rintro j s m t hk hj st ⟨c, hS⟩ hR
    have hjn : j = ns.length := by omega
    refine codeAny_builtin PySem.F.entry_max_loop ?_
    rw [Around.under_plainId PySem.F.plain_max_loop _]
    refine wpAny_bind (m := seqItems? (.ref S)) (wpAny_seqItems hS rfl ?_)
    refine wpAny_bind (m := tryCatch (pyNext (.ref I)) _) (wpAny_tryCatch (W.done s _ _ (by rw [← hjn]; exact st) fun h' tk kp => ?_))
    refine wpAny_bind (m := updateSeq S (fun _ => #[])) (wpAny_updateSeq (kp S _ hSw hS) rfl (wpAny_bind (wpAny_letGo (wpAny_pure ?_))))
    have e : (ns.drop j).foldl max m = m := by rw [hjn, List.drop_length]; rfl
    rw [e] at hR
    exact hR t _ tk fun b o hb q => (Heap.get?_update_other _ _ (fun z : S = b => hb (by rw [← z]; exact List.mem_cons_self ..))).trans (kp b o (fun z => hb (List.mem_cons_of_mem _ z)) q)
  | succ k ih =>
    rintro j s m t hk hj st ⟨c, hS⟩ hR
    have hlt : j < ns.length := by omega
    refine codeAny_builtin PySem.F.entry_max_loop ?_
    rw [Around.under_plainId PySem.F.plain_max_loop _]
    refine wpAny_bind (m := seqItems? (.ref S)) (wpAny_seqItems hS rfl ?_)
    refine wpAny_bind (m := tryCatch (pyNext (.ref I)) _) (wpAny_tryCatch (W.item j s _ _ hlt st fun v h' tk hv st' kp => ?_))
    obtain ⟨u, rfl⟩ := hv
    have hS' := kp S _ hSw hS
    have eg : ns.getD j 0 = ns[j] := by simp [hlt]
    rw [eg]
    have ed : (ns.drop j).foldl max m = (ns.drop (j + 1)).foldl max (max m ns[j]) := by rw [List.drop_eq_getElem_cons hlt, List.foldl_cons]
    rw [ed] at hR
    have cmp := CmpOf.ints_gt (prog := prog) (w := w) (A := A.in1) (P := fun i v => ∃ t, v = .int (if i = 0 then ns[j] else m) t) (fun i => if i = 0 then ns[j] else m) (fun _ _ z => z)
    refine wpAny_bind (m := tryCatch (holding [.int ns[j] u, .int ns[j] u] (richCompare .Gt (.int ns[j] u) (.int m t) >>= _)) _) (wpAny_tryCatch (wpAny_holding (wpAny_bind (cmp 0 1 _ _ _ _ _ ⟨u, rfl⟩ ⟨t, rfl⟩ ?_))))
    refine wpAny_bind (wpAny_holding (wpAny_truthy_bool ?_))
    refine wpAny_bind (wpAny_letGo (wpAny_pure ?_))
    simp only [if_true, Nat.one_ne_zero, if_false]
    by_cases hb : ns[j] > m
    · simp only [hb, decide_true, if_true]
      refine wpAny_bind (wpAny_updateSeq hS' rfl (wpAny_bind (wpAny_letGo ?_)))
      rw [hnm]
      rw [show max m ns[j] = ns[j] by omega] at hR
      refine wpAny_pure ⟨plainId_quiet PySem.F.plain_max_loop _, ih (j + 1) _ ns[j] u (by omega) hlt (W.frame _ _ _ st' fun b hbf o e => ?_) ⟨_, Heap.get?_update_self _ hS' rfl⟩ fun t' h2 tk2 k2 => ?_⟩
      · exact (Heap.get?_update_other _ _ (fun z : S = b => hSf (by rw [z]; exact hbf))).trans e
      · exact hR t' h2 tk2 fun b o hbb e => k2 b o hbb ((Heap.get?_update_other _ _ (fun z : S = b => hbb (by rw [← z]; exact List.mem_cons_self ..))).trans (kp b o (fun z => hbb (List.mem_cons_of_mem _ z)) e))
    · simp only [hb, decide_false, Bool.false_eq_true, if_false]
      refine wpAny_bind (wpAny_letGo ?_)
      rw [hnm]
      rw [show max m ns[j] = m by omega] at hR
      refine wpAny_pure ⟨plainId_quiet PySem.F.plain_max_loop _, ih (j + 1) _ m t (by omega) hlt st' ⟨_, hS'⟩ fun t' h2 tk2 k2 => ?_⟩
      exact hR t' h2 tk2 fun b o hbb e => k2 b o hbb (kp b o (fun z => hbb (List.mem_cons_of_mem _ z)) e)
noncomputable def topD : List Int → Int → Int
  | [], d => d
  | n :: r, _ => r.foldl max n
theorem call {s : Shared} {l : Addr} {items : Array Value} {ns : List Int} {d : Int} {td : Tok} {Q : Value → Shared → Prop} (hh : A.handled = none) (hl : s.heap.IsList l items) (hi : IntsAre items.toList ns)
    (h : ∀ t h' tk, (∀ b o, s.heap.get? b = some o → h'.get? b = some o) → Q (.int (topD ns d) t) { s with heap := h', toks := tk }) :
    wpAny (model prog w) A (PySem.call (.builtin "max") [.ref l] [("default", .int d td)]) Q E s := by
  have hnm : (toString "max" ++ toString ".loop" : String) = "max.loop" := by decide
  refine wpAny_call (codeAny_call_builtin PySem.F.plain_max PySem.F.entry_max ?_)
  simp only [checkBuiltinCall, PySem.F.kind_max]
  have key : wpAny (model prog w) A.in1 (Builtin.«max» ⟨[.ref l], [("default", .int d td)]⟩) (fun fin s' => match fin with
      | .done f => (match (Except.ok f : Result) with | .ok (.ret v) => Q v s' | .ok _ => False | .error e => E e s')
      | .again c' => c'.quiet = true ∧ codeAny (model prog w) A c' (fun r s' => match r with | .ok (.ret v) => Q v s' | .ok _ => False | .error e => E e s') s') E s := by
    refine wpAny_bind (m := Builtin.Builtins.bindParams "max" ["key", "default"] 0 ⟨[], [("default", .int d td)]⟩) (wpAny_of_eq (a := [none, some (.int d td)]) rfl ?_)
    refine wpAny_bind (wpAny_pure ?_)
    refine wpAny_bind (wpAny_pyIter_list hl ?_)
    refine wpAny_bind (wpAny_newObj_type ?_)
    rw [hnm]
    have hlen : items.size = ns.length := by have := hi.length; simpa using this
    have hlt : l < s.heap.objs.size := let ⟨_, ho, _⟩ := hl; Heap.lt_size ho
    have hI : (s.heap.push { cls := .type "list_iterator", data := .fields #[.ref l, .int 0 0] }).objs.size = s.heap.objs.size + 1 := by rw [Heap.size_push]
    have W0 := Walks.list (prog := prog) (w := w) (A := A.in1) (by simpa using hh) s.heap.objs.size l (Nat.ne_of_lt hlt) items
    have W : Walks prog w A.in1 s.heap.objs.size [s.heap.objs.size, l] [s.heap.objs.size] ns.length (fun i v => ∃ t, v = .int (ns.getD i 0) t) (fun i h => h.IsListIter s.heap.objs.size l i ∧ h.IsList l items) := by
      rw [← hlen]
      exact ⟨W0.sub, W0.frame, fun i s Q E hi' st hQ => W0.item i s Q E hi' st fun v h' tk hv st' kp => hQ v h' tk (IntsAre.int_at hi i v (by rw [Array.getElem?_toList]; exact hv)) st' kp, W0.done, W0.self⟩
    have hSf : (s.heap.push { cls := .type "list_iterator", data := .fields #[.ref l, .int 0 0] }).objs.size ∉ [s.heap.objs.size, l] := by
      rw [hI]
      intro z
      rcases List.mem_cons.mp z with z | z
      · exact absurd z (Nat.ne_of_gt (Nat.lt_succ_self _))
      · exact absurd (List.mem_singleton.mp z) (Nat.ne_of_gt (Nat.lt_succ_of_lt hlt))
    have st0 : ∀ o, (fun i (h : Heap) => h.IsListIter s.heap.objs.size l i ∧ h.IsList l items) 0 ((s.heap.push { cls := .type "list_iterator", data := .fields #[.ref l, .int 0 0] }).push o) := fun o =>
      ⟨⟨_, Heap.get?_push_of_some _ (Heap.get?_push_size _ rfl), rfl, rfl⟩, (hl.push _).push _⟩
    have old : ∀ b o q, s.heap.get? b = some o → ((s.heap.push { cls := .type "list_iterator", data := .fields #[.ref l, .int 0 0] }).push q).get? b = some o ∧ b ∉ [(s.heap.push { cls := .type "list_iterator", data := .fields #[.ref l, .int 0 0] }).objs.size, s.heap.objs.size] := fun b o q e => by
      have hb := Heap.lt_size e
      refine ⟨Heap.get?_push_of_some _ (Heap.get?_push_of_some _ e), fun z => ?_⟩
      rw [hI] at z
      rcases List.mem_cons.mp z with z | z
      · exact absurd z (Nat.ne_of_lt (Nat.lt_succ_of_lt hb))
      · exact absurd (List.mem_singleton.mp z) (Nat.ne_of_lt hb)
    refine wpAny_pure ⟨plainId_quiet PySem.F.plain_max_loop _, codeAny_builtin PySem.F.entry_max_loop ?_⟩
    rw [Around.under_plainId PySem.F.plain_max_loop _]
    refine wpAny_bind (m := seqItems? (.ref _)) (wpAny_seqItems (Heap.get?_push_size _ rfl) rfl ?_)
    cases ns with
    | nil =>
      refine wpAny_bind (m := tryCatch (pyNext (.ref s.heap.objs.size)) _) (wpAny_tryCatch (W.done _ _ _ (st0 _) fun h' tk kp => ?_))
      refine wpAny_bind (wpAny_rule (wpAny_pure ?_))
      exact h td h' tk fun b o e => kp b o (fun z => (old b o { cls := .none } e).2 (List.mem_cons_of_mem _ z)) (old b o _ e).1
    | cons n r =>
      refine wpAny_bind (m := tryCatch (pyNext (.ref s.heap.objs.size)) _) (wpAny_tryCatch (W.item 0 _ _ _ (by simp) (st0 _) fun v h' tk hv st' kp => ?_))
      obtain ⟨u, rfl⟩ := hv
      have hS' := kp _ _ (fun z => hSf (W.sub _ z)) (Heap.get?_push_size _ rfl)
      refine wpAny_bind (m := updateSeq _ (fun _ => #[.int n u, .int n u])) (wpAny_updateSeq hS' rfl ?_)
      rw [hnm]
      refine wpAny_pure ⟨plainId_quiet PySem.F.plain_max_loop _, loop W _ hSf _ _ 1 _ n u rfl (by simp) (W.frame _ _ _ st' fun b hbf o e => ?_) ⟨_, Heap.get?_update_self _ hS' rfl⟩ fun t' h2 tk2 k2 => ?_⟩
      · exact (Heap.get?_update_other _ _ (fun z => hSf (by rw [z]; exact hbf))).trans e
      · refine h t' h2 tk2 fun b o e => k2 b o (old b o { cls := .none } e).2 ((Heap.get?_update_other _ _ (fun z => (old b o { cls := .none } e).2 (by rw [← z]; exact List.mem_cons_self ..))).trans (kp b o (fun z => (old b o { cls := .none } e).2 (List.mem_cons_of_mem _ z)) (old b o _ e).1))
  cases hsig : Manifest.signature? "max" with
  | none => exact wpAny_pure key
  | some sig =>
    have ha := args_max (.ref l) (.int d td)
    simp only [argsOk, hsig] at ha
    show wpAny _ A.in1 (Bind.checkArgs "max" sig ⟨[.ref l], [("default", .int d td)]⟩) _ _ s
    rw [show Bind.checkArgs "max" sig ⟨[.ref l], [("default", .int d td)]⟩ = pure () from ha]
    exact wpAny_pure key
end
end NhMaxD
namespace PL
open PySem L2 Nh
noncomputable def pMaxD (c : Int) (f : PEv) : PEv := fun E => (f E).bind fun a => match look a.2 a.1 with
  | some (.list ds) => (intsL ds).map fun ns => (.sh (.int (NhMaxD.topD ns c)), a.2)
  | _ => none
section
variable {X : Cx} {e : Expr} {m : Bool} {f : PEv} {p pos kp cp : Pos} {j : Nat} {c : Int}
theorem xe_maxD (hc : X.calm = true) (hg : Gl X "max") (hm : X.mg "max" = none) (ha : EX X e m f) (he : starEach [e] X.env = [(false, eval e X.env)] := by rfl)
    (he' : backTo pos (starEach [e] X.env) = (false, eval e X.env) :: backTo pos (starEach [] X.env) := by rfl) (hpl : (backTo pos (starEach [e] X.env)).any (·.1) = false := by rfl)
    (hall : (backToKw pos (keywordEach [⟨some "default", .Constant (.int c) j cp, kp⟩] X.env)).all (·.1.isSome) = true := by rfl) (hkw : (backToKw pos (keywordEach [⟨some "default", .Constant (.int c) j cp, kp⟩] X.env)).any (·.1.isNone) = false := by rfl)
    (hnm : (backToKw pos (keywordEach [⟨some "default", .Constant (.int c) j cp, kp⟩] X.env)).filterMap (·.1) = [Str.ofString "default"] := by rfl) :
    EX X (.Call (.Name "max" p) [e] [⟨some "default", .Constant (.int c) j cp, kp⟩] pos) m (pMaxD c f) := by
  intro pins s σ H Q I z
  obtain ⟨B, E, xs, Xs, res, E', fr, cl, e0, q⟩ := z
  obtain ⟨⟨s1, E1⟩, e1, e2⟩ := Option.bind_eq_some_iff.mp e0
  simp only at e2
  split at e2
  · rename_i ds ld
    obtain ⟨ns, en, e3⟩ := Option.map_eq_some_iff.mp e2
    cases e3
    refine wpAny_Call_Name_kw (ld_blt I hg hm PyProof.Rows.boot_max ?_ (by decide) (by decide))
    refine PyProof.Rows.callWith_kw (thn (pa_cons ha pa_nil he pos pins s σ H (fun vs H1 => ∃ p, vs = [.ref p] ∧ SqL X.K H1 p (ns.map V.int) ∧ Q (.int (NhMaxD.topD ns c)) H1) I ⟨B, E, xs, Xs, s1, _, fr, cl, e1, fun v1 H1 ⟨F, A, fr1⟩ => ?_⟩) fun us s2 ⟨vs, H1, I1, r1, p0, ev, hq, q1⟩ => ?_) he' hpl hall hkw
    · obtain ⟨A', fr2⟩ := fr1.pop
      have r := (fr1.look0 ld).1
      cases r with
      | lst h1 h2 =>
        have := ints_rp h2 en
        subst this
        exact ⟨_, rfl, h1, q _ _ ⟨F, _, fr2.push ⟨rfl, _, rfl, .int _⟩⟩⟩
    · subst ev
      cases r1 with
      | cons r rr =>
        cases rr
        cases r
        refine PyProof.Rows.kws_cons (wpAny_Constant_int (PyProof.Rows.kws_nil ?_))
        rw [hnm]
        have I2 := I1.tok (s2.toks + 1)
        obtain ⟨its, rv, pl, hz⟩ := I2.list hq
        exact NhMaxD.call (I1.ok.hd hc) pl.isList (by simpa using ints_are rv) fun t h' tk kpp => ⟨.int _, H1, I2.kept kpp, ⟨_, rfl⟩, q1⟩
  · cases e2
end
end PL
namespace PL
open PySem L2 Nh
noncomputable def leS (a b : Str) : Bool := decide (a.cps.toList ≤ b.cps.toList)
noncomputable def sortS (ss : List Str) : List Str := ss.mergeSort leS
section
variable {X : Cx} {e : Expr} {m1 : Bool} {f : PEv} {p pos : Pos}
noncomputable def strsL : List PyData → Option (List Str)
  | [] => some []
  | .str x :: ds => (strsL ds).map (x :: ·)
  | _ => none
noncomputable def pSorted (g : PEv) : PEv := fun E => (g E).bind fun a => match look a.2 a.1 with
  | some (.list ds) => (strsL ds).bind fun ss => if ss.length < 64 then some (.ow ((sortS ss).map .str), a.2) else none
  | _ => none
end
end PL
namespace NhSet
open PySem PyProof.Rows
structure SS (w : World) (b : Bool) (ks : List Str) (es : Array (Int × Value)) (t : SetTable) : Prop where
  perm : (es.toList.map (fun e => strOf e.2)).Perm ks
  elems : ∀ e ∈ es.toList, ∃ x tk, e = (hashStr w x, Value.str x tk)
  bound : es.size < scanBound
  fits : t.fits es.size = true
  led : t.led = b
  plain : es.size ≠ 0 → t.plain = false
noncomputable abbrev setObj (es : Array (Int × Value)) (ep : Nat) (t : SetTable) : Obj := { cls := .type "set", dict := none, data := .set es ep t }
noncomputable def StrSet (w : World) (h : Heap) (a : Addr) (b : Bool) (ks : List Str) : Prop := ∃ es ep t, h.get? a = some (setObj es ep t) ∧ SS w b ks es t
theorem StrSet.obj {w : World} {h : Heap} {a : Addr} {b : Bool} {ks : List Str} (S : StrSet w h a b ks) : ∃ o, h.get? a = some o := let ⟨_, _, _, ho, _⟩ := S; ⟨_, ho⟩
theorem StrSet.typeIs {w : World} {s : Shared} {a : Addr} {b : Bool} {ks : List Str} (S : StrSet w s.heap a b ks) : s.TypeIs (.ref a) "set" := let ⟨_, _, _, ho, _⟩ := S; ⟨_, ho, rfl⟩
theorem SS.len {w : World} {b : Bool} {ks : List Str} {es : Array (Int × Value)} {t : SetTable} (S : SS w b ks es t) : es.size = ks.length := by
  have := S.perm.length_eq; simpa using this
theorem SS.mem {w : World} {b : Bool} {ks : List Str} {es : Array (Int × Value)} {t : SetTable} (S : SS w b ks es t) (x : Str) : x ∈ ks ↔ ∃ e ∈ es.toList, Value.isStrOf x e.2 = true := by
  rw [← S.perm.mem_iff, List.mem_map]
  constructor
  · rintro ⟨e, he, rfl⟩
    obtain ⟨y, tk, rfl⟩ := S.elems e he
    exact ⟨_, he, by simp [Value.isStrOf, strOf]⟩
  · rintro ⟨e, he, hx⟩
    obtain ⟨y, tk, rfl⟩ := S.elems e he
    have : y = x := by simpa [Value.isStrOf] using hx
    exact ⟨_, he, by simp [strOf, this]⟩
end NhSet
namespace PL
open PySem L2 Nh
noncomputable def pTupOf (g : PEv) : PEv := fun E => (g E).bind fun a => match look a.2 a.1 with
  | some (.list ds) => if !hot a.2 a.1 || flatA ds then some (.sh (.tuple ds), a.2) else none
  | _ => none
end PL
namespace PL
open PySem L2 Nh
noncomputable def pTupB (g : PAv) : PEv := fun E => (g E).bind fun a => (lookA a.2 a.1).bind fun ds => if a.1.length ≤ 1000000 then some (.br (.tuple ds), a.2) else none
end PL
namespace PL
open PySem L2 Nh
noncomputable def pCutT (m2 : Bool) (f : PEv) (lo hi : POv) : PEv := fun E => (f E).bind fun a => if m2 && a.1.isBr then none else (lo a.2).bind fun b => (hi b.2).bind fun c => match look c.2 a.1 with
  | some (.tuple ds) => if flatA ds && !(HT.sIx ds.length 0 b.1 == 0 && HT.sIx ds.length ds.length c.1 == ds.length) then some (.sh (.tuple (cutD ds b.1 c.1)), c.2) else none
  | _ => none
theorem xe_cutT {X : Cx} {e : Expr} {lo hi : Option Expr} {m1 m2 m3 : Bool} {f : PEv} {g h : POv} {pos p2 : Pos} (he : EX X e m1 f) (hl : OX X lo m2 g) (hh : OX X hi m3 h) : EX X (.Subscript e (.Slice lo hi none p2) pos) (m1 || (m2 || m3)) (pCutT (m2 || m3) f g h) := by
  refine pe_imp (pe_slice sl_tup he hl hh) fun σ H Q z => ?_
  obtain ⟨B, E, xs, Xs, res, E', fr, cl, e, q⟩ := z
  obtain ⟨⟨s, E1⟩, e1, e⟩ := Option.bind_eq_some_iff.mp e
  by_cases hb : ((m2 || m3) && s.isBr) = true
  · rw [if_pos hb] at e; cases e
  rw [if_neg hb] at e
  have n1 : (m2 || m3) = true → s.isBr = false := fun z => by
    cases hs : s.isBr with
    | false => rfl
    | true => exact absurd (by rw [z, hs]; rfl) hb
  obtain ⟨⟨l, E2⟩, e2, e⟩ := Option.bind_eq_some_iff.mp e
  obtain ⟨⟨u, E3⟩, e3, e⟩ := Option.bind_eq_some_iff.mp e
  refine ⟨B, E, xs, Xs, s, E1, fr, fun z => cl (by simp [z]), e1, fun v1 H1 fr1 => ?_⟩
  refine ⟨B, E1, v1 :: xs, s :: Xs, l, E2, fr1, fun z => Calm.cons (cl (by simp [z])) (n1 (by simp [z])), e2, fun H2 fr2 => ?_⟩
  refine ⟨B, E2, v1 :: xs, s :: Xs, u, E3, fr2, fun z => Calm.cons (cl (by simp [z])) (n1 (by simp [z])), e3, fun H3 ⟨F, A, fr3⟩ => ?_⟩
  simp only at e
  split at e
  · rename_i ds ld
    split at e
    · rename_i hc
      cases e
      rw [Bool.and_eq_true, Bool.not_eq_true'] at hc
      obtain ⟨v, ev, r, f0⟩ := fr3.look (k := 0) rfl ld
      cases ev
      obtain ⟨A', fr4⟩ := fr3.pop
      cases r with
      | tup h1 h2 =>
        have hlen := h2.len
        refine ⟨_, _, rfl, h1, ?_, fun p hp => q _ _ ⟨_, _, fr4.newt ((fr3.coldA h2 hc.1).cut l u) hp⟩⟩
        rw [hlen]
        intro z
        have := hc.2
        simp [z.1, z.2] at this
    · cases e
  · cases e
end PL
namespace PL
open PySem PySem.SeqAt
open AutoSeq1 (wpAny_loadPart')
open MeetsSeq MeetsSeq2 MeetsSeq3 SeqRoads2
noncomputable def RcGtAt (A : Around) (s : Shared) (y x : Value) (b : Bool) : Prop :=
  ∀ (prog : Program) (w : World) (E : Value → Shared → Prop) (Q : Value → Shared → Prop), Q (.bool b) s → wpAny (model prog w) A (richCompare .Gt y x) Q E s
theorem tuple_gtAt (l b : Addr) (items items2 : Array Value) (n n2 : Nat) (dd dd2 : Option Addr) (sl sl2 : Array (Option Value)) (e r : Nat → Bool) :
    Meets (Builtin.«tuple.__gt__» ⟨[.ref l, .ref b], []⟩)
      (fun A R s => s.heap.get? l = some { cls := .type "tuple", dict := dd, data := .seq items n, slots := sl } ∧ s.heap.get? b = some { cls := .type "tuple", dict := dd2, data := .seq items2 n2, slots := sl2 } ∧
        (∀ j (h1 : j < items.size) (h2 : j < items2.size), EqAt A.in1 s items[j] items2[j] (e j)) ∧ (∀ j (h1 : j < items.size) (h2 : j < items2.size), e j = false → RcGtAt A.in1 s items[j] items2[j] (r j)) ∧
        R (.ok (.ret (.bool (lexB e r (decide (items2.size < items.size)) (List.range (min items.size items2.size)))))) s) :=
  .of_wp fun prog w A R s h => by
    obtain ⟨hp, g, d, tk, os⟩ := s; obtain ⟨hl, hb, he, hr, h⟩ := h
    have f2 := AutoSeq1.sub_tuple_tuple
    have hZ : (items.toList.zip items2.toList).length = min items.size items2.size := by simp
    wp_walk using wpAny_loadPart' hl, wpAny_loadPart' hb, wpAny_forIn_list _ (fun rest b s' => b.1 = none ∧ s' = ⟨hp, g, d, tk, os⟩ ∧ ∃ i, rest = (items.toList.zip items2.toList).drop i ∧
      R (.ok (.ret (.bool (lexB e r (decide (items2.size < items.size)) ((List.range (min items.size items2.size)).drop i))))) ⟨hp, g, d, tk, os⟩) _
    case turn =>
      rintro ⟨y, x⟩ rest b s' ⟨hb', rfl, i, hz, hR⟩
      have hlt : i < (items.toList.zip items2.toList).length := by
        rcases Nat.lt_or_ge i (items.toList.zip items2.toList).length with h' | h'
        · exact h'
        · rw [List.drop_of_length_le h'] at hz; cases hz
      have hm : i < min items.size items2.size := hZ ▸ hlt
      have h1 : i < items.size := Nat.lt_of_lt_of_le hm (Nat.min_le_left _ _)
      have h2 : i < items2.size := Nat.lt_of_lt_of_le hm (Nat.min_le_right _ _)
      rw [List.drop_eq_getElem_cons hlt] at hz
      injection hz with hyx hrest
      have hy : y = items[i] := by have := congrArg Prod.fst hyx; simpa using this
      have hx : x = items2[i] := by have := congrArg Prod.snd hyx; simpa using this
      subst hy hx
      have hd : (List.range (min items.size items2.size)).drop i = i :: (List.range (min items.size items2.size)).drop (i + 1) := by simp [List.drop_eq_getElem_cons, hm]
      rw [hd, lexB] at hR
      refine wpAny_bind (he i h1 h2 prog w _ _ ?_)
      cases hy : e i with
      | true =>
        rw [hy, if_pos rfl] at hR
        wp_walk
        exact ⟨rfl, rfl, i + 1, hrest, hR⟩
      | false =>
        rw [hy, if_neg (by decide)] at hR
        rw [show (!false) = true from rfl, if_pos rfl]
        refine wpAny_bind (wpAny_rule (wpAny_bind (hr i h1 h2 hy prog w _ _ ?_)))
        wp_walk
        exact ⟨_, rfl, hR⟩
    case fin =>
      rintro ⟨b1, b2⟩ s' ⟨hb', rfl, i, hz, hR⟩
      simp only at hb'
      subst hb'
      have hge : min items.size items2.size ≤ i := by
        rcases Nat.lt_or_ge i (items.toList.zip items2.toList).length with h' | h'
        · rw [List.drop_eq_getElem_cons h'] at hz; cases hz
        · exact hZ ▸ h'
      rw [List.drop_of_length_le (by simpa using hge)] at hR
      wp_walk
      exact ⟨_, rfl, hR⟩
    case h =>
      exact ⟨rfl, rfl, 0, rfl, by simpa using h⟩
section
variable {A : Around} {s : Shared}
theorem RcGtAt.tuples {l b : Addr} {items items2 : Array Value} {e r : Nat → Bool} (hl : s.heap.IsTuple l items) (hb : s.heap.IsTuple b items2) (hu : A.units < cLine)
    (he : ∀ j (h1 : j < items.size) (h2 : j < items2.size), EqAt A.in1 s items[j] items2[j] (e j)) (hr : ∀ j (h1 : j < items.size) (h2 : j < items2.size), e j = false → RcGtAt A.in1 s items[j] items2[j] (r j)) : RcGtAt A s (.ref l) (.ref b) (lexB e r (decide (items2.size < items.size)) (List.range (min items.size items2.size))) := fun prog w E Q h => by
  obtain ⟨⟨cls, dd, data, sl⟩, ho, hc, n, hd⟩ := id hl
  obtain ⟨⟨cls2, dd2, data2, sl2⟩, ho2, hc2, n2, hd2⟩ := id hb
  simp only at hc hd hc2 hd2
  subst hc hd hc2 hd2
  exact richCompare_meets_room (op := .Gt) ⟨_, ho, rfl⟩ ⟨_, ho2, rfl⟩ F.slot_tuple_gt F.entry_tuple_gt (F.args_tuple_gt_2 _ _) (tuple_gtAt l b items items2 n n2 dd dd2 sl sl2 e r)
    ⟨ho, ho2, he, hr, show Value.bool _ ≠ Value.notImplemented ∧ Q (.bool _) s from ⟨(fun x => nomatch x), h⟩⟩ hu
theorem RcGtAt.ints (i j : Int) (t u : Tok) : RcGtAt A s (.int i t) (.int j u) (decide (j < i)) := fun prog w E Q h => PyProof.Rows.gt_int h
theorem RcGtAt.strs (x y : Str) (t u : Tok) : RcGtAt A s (.str x t) (.str y u) (decide (y.cps.toList < x.cps.toList)) := fun prog w E Q h => PySem.P.gt_str h
end
end PL
namespace Nh
open PySem L2
theorem NailsOk.stp {r : List Pc} {p : Pc} (h : NailsOk r) (hp : p.1 < 128) : NailsOk (NH.stp r p) := by
  cases r with
  | nil =>
    show NailsOk (if p.2 = 0 then [] else [p])
    split
    · exact h
    · intro q hq; rw [List.mem_singleton.mp hq]; exact hp
  | cons x r =>
    rw [NH.stp_cons]
    intro q hq
    rcases List.mem_append.mp hq with h1 | h1
    · unfold NH.hd2 at h1
      split at h1
      · split at h1
        · cases h1
        · rw [List.mem_singleton.mp h1]; exact hp
      · split at h1
        · rw [List.mem_singleton.mp h1]; exact h x (List.mem_cons_self ..)
        · rcases List.mem_cons.mp h1 with h2 | h2
          · rw [h2]; exact hp
          · rw [List.mem_singleton.mp h2]; exact h x (List.mem_cons_self ..)
    · exact h q (List.mem_cons_of_mem _ h1)
theorem NailsOk.foldl : ∀ (c : List Pc) {r : List Pc}, NailsOk r → NailsOk c → NailsOk (c.foldl NH.stp r)
  | [], _, h, _ => h
  | p :: c, _, h, hc => NailsOk.foldl c (h.stp (hc p (List.mem_cons_self ..))) fun q hq => hc q (List.mem_cons_of_mem _ hq)
theorem NailsOk.take {c : List Pc} (h : NailsOk c) (i : Nat) : NailsOk (c.take i) := fun p hp => h p (List.mem_of_mem_take hp)
theorem NailsOk.drop {c : List Pc} (h : NailsOk c) (i : Nat) : NailsOk (c.drop i) := fun p hp => h p (List.mem_of_mem_drop hp)
theorem NailsOk.reverse {c : List Pc} (h : NailsOk c) : NailsOk c.reverse := fun p hp => h p (List.mem_reverse.mp hp)
theorem NailsOk.append {c d : List Pc} (h : NailsOk c) (h' : NailsOk d) : NailsOk (c ++ d) := fun p hp => (List.mem_append.mp hp).elim (h p) (h' p)
theorem NailsOk.contr {c : List Pc} (h : NailsOk c) : NailsOk (NH.contr c) := fun p hp => by
  obtain ⟨q, hq, e⟩ := List.mem_map.mp hp
  subst e
  exact h q (List.mem_reverse.mp hq)
theorem NailsOk.short {c : List Pc} (h : NailsOk c) : NailsOk (NH.short c) := (NailsOk.foldl c (fun _ z => by cases z) h).reverse
theorem nails_nil : NailsOk [] := fun _ z => by cases z
end Nh
namespace Nh
open PySem L2 PL
theorem NailsOk.rep {c : List Pc} (h : NailsOk c) (k : Nat) : NailsOk (List.replicate k c).flatten := fun p hp => by
  obtain ⟨l, hl, hpl⟩ := List.mem_flatten.mp hp
  rw [(List.mem_replicate.mp hl).2] at hpl
  exact h p hpl
theorem NailsOk.cutL {c : List Pc} (h : NailsOk c) (lo hi : Option Int) : NailsOk (cutL c lo hi) := fun p hp => h p (cutL_mem hp)
noncomputable def l4 (i : Int) : Nat := [97, 98, 99, 122].getD i.toNat 97
theorem l4_ok (i : Int) : l4 i < 128 := by
  unfold l4
  rw [List.getD_eq_getElem?_getD]
  have h : ∀ j : Nat, ([97, 98, 99, 122][j]?.getD 97) < 128 := fun j =>
    match j with
    | 0 => by decide
    | 1 => by decide
    | 2 => by decide
    | 3 => by decide
    | j + 4 => by simp
  exact h _
theorem az_at : ∀ j, j < 26 → (Str.ofString "abcdefghijklmnopqrstuvwxyz").cps.toList[j]? = some (97 + j) := by decide +kernel
theorem abcz_at : ∀ j, j < 4 → (Str.ofString "abcz").cps.toList[j]? = some ([97, 98, 99, 122].getD j 97) := by decide +kernel
theorem abcz_m (v : Int) : atI (Str.ofString "abcz").cps.toList (v % 4) = some (l4 (v % 4)) := by
  have h0 := Int.emod_nonneg v (show (4 : Int) ≠ 0 by decide)
  have h1 := Int.emod_lt_of_pos v (show (0 : Int) < 4 by decide)
  rw [atI_nn h0]
  exact abcz_at _ (by omega)
theorem az_m (v : Int) : atI (Str.ofString "abcdefghijklmnopqrstuvwxyz").cps.toList (v % 26) = some (97 + (v % 26).toNat) := by
  have h0 := Int.emod_nonneg v (show (26 : Int) ≠ 0 by decide)
  have h1 := Int.emod_lt_of_pos v (show (0 : Int) < 26 by decide)
  rw [atI_nn h0]
  exact az_at _ (by omega)
theorem len_abcz : (Str.ofString "abcz").length ≤ 1000000 := by decide +kernel
theorem len_az : (Str.ofString "abcdefghijklmnopqrstuvwxyz").length ≤ 1000000 := by decide +kernel
theorem okMul_r {i j : Int} (h1 : -(2 ^ 64) < j) (h2 : j < 2 ^ 64) : okMul i j = true := by
  simp only [okMul, Bool.or_eq_true, decide_eq_true_eq]
  exact .inl (.inr ⟨h1, h2⟩)
theorem okMul_l {i j : Int} (h1 : -(2 ^ 64) < i) (h2 : i < 2 ^ 64) : okMul i j = true := by
  simp only [okMul, Bool.or_eq_true, decide_eq_true_eq]
  exact .inl (.inl ⟨h1, h2⟩)
theorem okDiv_of {j : Int} (h1 : 0 < j) (h2 : j < 2 ^ 200) : okDiv j = true := decide_eq_true ⟨h1, h2⟩
theorem dEq_int (i j : Int) : dEq (.int i) (.int j) = some (decide (i = j)) := rfl
theorem dEq_str (i j : Str) : dEq (.str i) (.str j) = some (decide (i = j)) := rfl
theorem dEq_bool (i j : Bool) : dEq (.bool i) (.bool j) = some (decide (i = j)) := rfl
theorem dEq_cord {c d : List Pc} (hc : NailsOk c) (hd : NailsOk d) : dEq (.list (c.map pcD)) (.list (d.map pcD)) = some (decide (c = d)) := by
  have e : dEq (.list (c.map pcD)) (.list (d.map pcD)) = (if SeqAt.shaped (cordD c) && SeqAt.shaped (cordD d) then some (PyData.eqv (cordD c) (cordD d)) else none) := rfl
  rw [e, cord_shaped hc, cord_shaped hd, cord_eqv]
  rfl
theorem dEq_cord_nil {c : List Pc} (hc : NailsOk c) : dEq (.list (c.map pcD)) (.list []) = some (decide (c = [])) := dEq_cord hc nails_nil
theorem runs_fold (c : List Pc) : c.reverse.foldl NH.stp [] = NH.runs c := by
  unfold NH.runs
  rw [List.foldl_reverse]
theorem str1_eq (a b : Nat) : ((⟨#[a]⟩ : Str) = ⟨#[b]⟩) = (a = b) := propext ⟨fun h => by
  injection h with h
  simpa using congrArg Array.toList h, fun h => by rw [h]⟩
end Nh
namespace NH
noncomputable def chN : Nat → Nat → Nat
  | _, 0 => 1
  | 0, _ + 1 => 0
  | n + 1, k + 1 => chN n (k + 1) + chN n k
noncomputable def chM : Nat → Nat → Int
  | _, 0 => 1
  | 0, _ + 1 => 0
  | m + 1, k + 1 => chM m (k + 1) - chM (m + 1) k
noncomputable def ch (n : Int) (k : Nat) : Int := match n with
  | .ofNat n => (chN n k : Int)
  | .negSucc m => chM (m + 1) k
theorem ch_zero_right (n : Int) : ch n 0 = 1 := by
  cases n with
  | ofNat n => simp [ch, chN]
  | negSucc m => simp [ch, chM]
theorem ch_zero (k : Nat) : ch 0 k = if k = 0 then 1 else 0 := by
  cases k with
  | zero => rfl
  | succ k => simp [ch, chN]
theorem ch_pascal (n : Int) (k : Nat) : ch (n + 1) (k + 1) = ch n (k + 1) + ch n k := by
  cases n with
  | ofNat n =>
    show ch (Int.ofNat (n + 1)) (k + 1) = _
    simp only [ch, chN]
    omega
  | negSucc m =>
    cases m with
    | zero =>
      have e : Int.negSucc 0 + 1 = 0 := rfl
      rw [e, ch_zero]
      simp only [ch, chM]
      simp
      omega
    | succ m =>
      have e : Int.negSucc (m + 1) + 1 = Int.negSucc m := by omega
      rw [e]
      simp only [ch, chM]
      omega
theorem pascal_one {f g : Int → Nat → Int} (h0 : ∀ k, f 0 k = g 0 k) (hk : ∀ n, f n 0 = g n 0) (pf : ∀ n k, f (n + 1) (k + 1) = f n (k + 1) + f n k) (pg : ∀ n k, g (n + 1) (k + 1) = g n (k + 1) + g n k) : ∀ (n : Int) (k : Nat), f n k = g n k := by
  have up : ∀ (n k : Nat), f (n : Int) k = g (n : Int) k := fun n => by
    induction n with
    | zero => intro k; exact h0 k
    | succ n ih =>
      intro k
      cases k with
      | zero => exact hk _
      | succ k =>
        have e : ((n + 1 : Nat) : Int) = (n : Int) + 1 := by omega
        rw [e, pf, pg, ih, ih]
  have down : ∀ (m k : Nat), f (-(m : Int)) k = g (-(m : Int)) k := fun m => by
    induction m with
    | zero => intro k; exact h0 k
    | succ m ih =>
      intro k
      induction k with
      | zero => exact hk _
      | succ k ik =>
        have e : -((m + 1 : Nat) : Int) + 1 = -(m : Int) := by omega
        have a := pf (-((m + 1 : Nat) : Int)) k
        have b := pg (-((m + 1 : Nat) : Int)) k
        rw [e] at a b
        rw [ih] at a
        omega
  intro n k
  rcases Int.le_total 0 n with h | h
  · have e : n = ((n.toNat : Nat) : Int) := by omega
    rw [e]; exact up _ _
  · have e : n = -(((-n).toNat : Nat) : Int) := by omega
    rw [e]; exact down _ _
theorem ch_step : ∀ (n : Int) (k : Nat), ((k : Int) + 1) * ch n (k + 1) = (n - k) * ch n k := by
  have zero : ∀ k : Nat, ((k : Int) + 1) * ch 0 (k + 1) = (0 - k) * ch 0 k := fun k => by
    rw [ch_zero, ch_zero]
    cases k with
    | zero => simp
    | succ k => simp
  have up : ∀ n : Int, (∀ k : Nat, ((k : Int) + 1) * ch n (k + 1) = (n - k) * ch n k) → ∀ k : Nat, ((k : Int) + 1) * ch (n + 1) (k + 1) = (n + 1 - k) * ch (n + 1) k := fun n ih k => by
    have h := ih k
    rw [ch_pascal]
    cases k with
    | zero =>
      rw [ch_zero_right] at h
      rw [ch_zero_right n, ch_zero_right (n + 1)]
      simp at h ⊢
      omega
    | succ k =>
      have h2 := ih k
      clear ih zero
      rw [ch_pascal]
      have e : ((k + 1 : Nat) : Int) = (k : Int) + 1 := by omega
      rw [e] at h ⊢
      generalize (k : Int) = z at *
      grind
  have down : ∀ n : Int, (∀ k : Nat, ((k : Int) + 1) * ch (n + 1) (k + 1) = (n + 1 - k) * ch (n + 1) k) → ∀ k : Nat, ((k : Int) + 1) * ch n (k + 1) = (n - k) * ch n k := fun n ih k => by
    induction k with
    | zero =>
      have h := ih 0
      rw [ch_pascal, ch_zero_right, ch_zero_right] at h
      rw [ch_zero_right]
      simp at h ⊢
      omega
    | succ k ik =>
      have h := ih (k + 1)
      clear ih zero up
      rw [ch_pascal, ch_pascal] at h
      have e : ((k + 1 : Nat) : Int) = (k : Int) + 1 := by omega
      rw [e] at h ⊢
      generalize (k : Int) = z at *
      grind
  have ups : ∀ (n k : Nat), ((k : Int) + 1) * ch n (k + 1) = ((n : Int) - k) * ch n k := fun n => by
    induction n with
    | zero => exact zero
    | succ n ih => exact up n ih
  have downs : ∀ (m k : Nat), ((k : Int) + 1) * ch (-(m : Int)) (k + 1) = (-(m : Int) - k) * ch (-(m : Int)) k := fun m => by
    induction m with
    | zero => exact zero
    | succ m ih =>
      refine down (-((m + 1 : Nat) : Int)) ?_
      have e : -((m + 1 : Nat) : Int) + 1 = -(m : Int) := by omega
      rw [e]
      exact ih
  intro n k
  rcases Int.le_total 0 n with h | h
  · have e : n = ((n.toNat : Nat) : Int) := by omega
    rw [e]; exact ups _ _
  · have e : n = -(((-n).toNat : Nat) : Int) := by omega
    rw [e]; exact downs _ _
noncomputable def ff (n : Int) : Nat → Int
  | 0 => 1
  | k + 1 => ff n k * (n - k)
section
variable {α : Type}
noncomputable def conv (f g : List α → Int) : List α → Int
  | [] => f [] * g []
  | a :: w => f [] * g (a :: w) + conv (fun u => f (a :: u)) g w
noncomputable def eps : List α → Int
  | [] => 1
  | _ :: _ => 0
theorem conv_congr {f f' g g' : List α → Int} (hf : ∀ w, f w = f' w) (hg : ∀ w, g w = g' w) (w : List α) : conv f g w = conv f' g' w := by
  have e1 : f = f' := funext hf
  have e2 : g = g' := funext hg
  rw [e1, e2]
theorem conv_lin (c : Int) (p q h : List α → Int) : ∀ w, conv (fun u => c * p u + q u) h w = c * conv p h w + conv q h w
  | [] => by simp only [conv]; grind
  | a :: w => by
    have ih := conv_lin c (fun u => p (a :: u)) (fun u => q (a :: u)) h w
    simp only [conv]
    rw [ih]
    grind
theorem conv_assoc : ∀ (w : List α) (f g h : List α → Int), conv (conv f g) h w = conv f (conv g h) w
  | [], f, g, h => by simp only [conv]; grind
  | a :: w, f, g, h => by
    have e : (fun u => conv f g (a :: u)) = fun u => f [] * g (a :: u) + conv (fun v => f (a :: v)) g u := rfl
    have ih := conv_assoc w (fun v => f (a :: v)) g h
    show conv f g [] * h (a :: w) + conv (fun u => conv f g (a :: u)) h w = f [] * conv g h (a :: w) + conv (fun v => f (a :: v)) (conv g h) w
    rw [e, conv_lin, ih]
    simp only [conv]
    grind
theorem conv_zero_left (g : List α → Int) : ∀ w, conv (fun _ => 0) g w = 0
  | [] => by simp [conv]
  | a :: w => by simp [conv, conv_zero_left g w]
theorem eps_conv (f : List α → Int) : ∀ w, conv eps f w = f w
  | [] => by simp [conv, eps]
  | a :: w => by
    have e : (fun u => eps (a :: u)) = fun (_ : List α) => (0 : Int) := rfl
    simp only [conv, e, conv_zero_left, eps]
    omega
theorem conv_eps : ∀ (w : List α) (f : List α → Int), conv f eps w = f w
  | [], f => by simp [conv, eps]
  | a :: w, f => by
    have ih := conv_eps w fun u => f (a :: u)
    simp only [conv, ih, eps]
    omega
end
section
variable {α : Type} [DecidableEq α]
noncomputable def piece (p : α × Int) (w : List α) : Int := if w.all (fun b => decide (b = p.1)) then ch p.2 w.length else 0
noncomputable def times (w : List α) (c : List (α × Int)) : Int := c.foldr (fun p f => conv (piece p) f) eps w
theorem times_nil (w : List α) : times w [] = eps w := rfl
theorem times_cons (w : List α) (p : α × Int) (c : List (α × Int)) : times w (p :: c) = conv (piece p) (fun v => times v c) w := rfl
theorem times_append (w : List α) (c d : List (α × Int)) : times w (c ++ d) = conv (fun u => times u c) (fun v => times v d) w := by
  induction c generalizing w with
  | nil => exact (eps_conv _ w).symm
  | cons p c ih =>
    rw [List.cons_append, times_cons, conv_congr (fun _ => rfl) ih, ← conv_assoc]
    rfl
noncomputable def vs (j : Nat) (m n : Int) : Nat → Int
  | 0 => ch m j
  | k + 1 => ch m j * ch n (k + 1) + vs (j + 1) m n k
theorem vs_zero (m : Int) : ∀ (k j : Nat), vs j m 0 k = ch m (j + k)
  | 0, j => rfl
  | k + 1, j => by
    simp only [vs, ch_zero, vs_zero m k (j + 1)]
    rw [show j + 1 + k = j + (k + 1) by omega]
    simp
theorem vs_pascal (m n : Int) : ∀ (k j : Nat), vs j m (n + 1) (k + 1) = vs j m n (k + 1) + vs j m n k
  | 0, j => by
    simp only [vs, ch_pascal, ch_zero_right]
    grind
  | k + 1, j => by
    have ih := vs_pascal m n k (j + 1)
    rw [vs, ih, ch_pascal]
    simp only [vs]
    grind
theorem vandermonde (m n : Int) (k : Nat) : vs 0 m n k = ch (m + n) k := by
  refine pascal_one (f := fun n k => vs 0 m n k) (g := fun n k => ch (m + n) k) (fun k => ?_) (fun n => ?_) (fun n k => vs_pascal m n k 0) (fun n k => ?_) n k
  · rw [vs_zero, Nat.zero_add, Int.add_zero]
  · simp only [vs, ch_zero_right]
  · show ch (m + (n + 1)) (k + 1) = _
    rw [show m + (n + 1) = m + n + 1 by omega, ch_pascal]
theorem conv_piece_eq (a : α) (m n : Int) : ∀ (k j : Nat) (w : List α), w.length = k → conv (fun u => if u.all (fun b => decide (b = a)) then ch m (j + u.length) else 0) (piece (a, n)) w = if w.all (fun b => decide (b = a)) then vs j m n k else 0
  | 0, j, [], _ => by simp [conv, piece, vs, ch_zero_right]
  | k + 1, j, b :: w, h => by
    have hl : w.length = k := by simpa using h
    by_cases e : b = a
    · subst e
      have f : (fun u : List α => if ((b :: u).all fun c => decide (c = b)) = true then ch m (j + (b :: u).length) else 0) = fun u => if (u.all fun c => decide (c = b)) = true then ch m (j + 1 + u.length) else 0 := by
        funext u
        simp only [List.all_cons, decide_true, Bool.true_and, List.length_cons]
        rw [show j + (u.length + 1) = j + 1 + u.length by omega]
      have ih := conv_piece_eq b m n k (j + 1) w hl
      simp only [conv]
      rw [f, ih]
      simp only [List.all_nil, if_true, List.length_nil, Nat.add_zero, piece, List.all_cons, decide_true, Bool.true_and, List.length_cons, hl]
      by_cases c : (w.all fun c => decide (c = b)) = true
      · simp only [c, if_true, vs]
      · simp [c]
    · have f : (fun u : List α => if ((b :: u).all fun c => decide (c = a)) = true then ch m (j + (b :: u).length) else 0) = fun _ => 0 := by
        funext u
        simp [e]
      simp only [conv]
      rw [f, conv_zero_left]
      simp [piece, e]
theorem piece_piece (a : α) (m n : Int) (w : List α) : conv (piece (a, m)) (piece (a, n)) w = piece (a, m + n) w := by
  have h := conv_piece_eq a m n w.length 0 w rfl
  have e : (fun u : List α => if (u.all fun b => decide (b = a)) = true then ch m (0 + u.length) else 0) = piece (a, m) := by
    funext u
    simp [piece]
  rw [e] at h
  rw [h, vandermonde]
  rfl
theorem piece_zero (a : α) (w : List α) : piece (a, 0) w = eps w := by
  cases w with
  | nil => simp [piece, eps, ch_zero]
  | cons b w => simp [piece, eps, ch_zero]
theorem times_stp (w : List α) (p : α × Int) (r : List (α × Int)) : times w (stp r p) = times w (p :: r) := by
  have zero : ∀ (n : α) (r : List (α × Int)) (w : List α), times w ((n, 0) :: r) = times w r := fun n r w => by
    rw [times_cons, conv_congr (piece_zero n) (fun _ => rfl), eps_conv]
  have two : ∀ (n : α) (a b : Int) (r : List (α × Int)) (w : List α), times w ((n, a) :: (n, b) :: r) = times w ((n, a + b) :: r) := fun n a b r w => by
    rw [times_cons, conv_congr (fun _ => rfl) (fun v => times_cons v (n, b) r), ← conv_assoc, conv_congr (piece_piece n a b) (fun _ => rfl), ← times_cons]
  obtain ⟨n, a⟩ := p
  cases r with
  | nil =>
    show times w (if a = 0 then [] else [(n, a)]) = _
    by_cases h : a = 0
    · subst h; rw [if_pos rfl, zero]
    · rw [if_neg h]
  | cons q r =>
    obtain ⟨m, b⟩ := q
    show times w (if m = n then (if b + a = 0 then r else (n, b + a) :: r) else (if a = 0 then (m, b) :: r else (n, a) :: (m, b) :: r)) = _
    by_cases e : m = n
    · subst e
      rw [if_pos rfl, two]
      by_cases h : b + a = 0
      · rw [if_pos h, show a + b = 0 by omega, zero]
      · rw [if_neg h, Int.add_comm]
    · rw [if_neg e]
      by_cases h : a = 0
      · subst h; rw [if_pos rfl, zero]
      · rw [if_neg h]
theorem times_runs (c : List (α × Int)) : ∀ w : List α, times w (runs c) = times w c := by
  induction c with
  | nil => intro w; rfl
  | cons p c ih =>
    intro w
    show times w (stp (runs c) p) = _
    rw [times_stp, times_cons, times_cons, conv_congr (fun _ => rfl) ih]
theorem times_short (w : List α) (c : List (α × Int)) : times w (short c) = times w c := by rw [short_eq_runs, times_runs]
theorem times_back (w : List α) (c : List (α × Int)) : times w (c ++ contr c) = eps w := by rw [← times_short, short_back]; rfl
noncomputable def picks : List α → List (α × Int) → Int
  | [], _ => 1
  | _ :: _, [] => 0
  | a :: w, p :: c => picks (a :: w) c + if p.1 = a then p.2 * picks w c else 0
noncomputable def Unlike : List α → Prop
  | [] => True
  | [_] => True
  | a :: b :: w => a ≠ b ∧ Unlike (b :: w)
theorem Unlike.tail {a : α} {w : List α} (h : Unlike (a :: w)) : Unlike w := by
  cases w with
  | nil => trivial
  | cons b w => exact h.2
theorem ch_one (n : Int) : ch n 1 = n := by
  have h := ch_step n 0
  rw [ch_zero_right] at h
  simp at h
  exact h
theorem picks_nil (c : List (α × Int)) : picks ([] : List α) c = 1 := by cases c <;> rfl
theorem times_picks (c : List (α × Int)) : ∀ w : List α, Unlike w → times w c = picks w c := by
  induction c with
  | nil =>
    intro w _
    cases w <;> rfl
  | cons p c ih =>
    intro w hw
    have hp0 : piece p ([] : List α) = 1 := by simp [piece, ch_zero_right]
    cases w with
    | nil =>
      rw [times_cons]
      simp only [conv, hp0, ih [] trivial, picks_nil]
      rfl
    | cons a w =>
      rw [times_cons]
      simp only [conv, hp0, ih (a :: w) hw, Int.one_mul]
      show _ = picks (a :: w) c + if p.1 = a then p.2 * picks w c else 0
      congr 1
      by_cases e : p.1 = a
      · subst e
        rw [if_pos rfl]
        have h1 : piece p [p.1] = p.2 := by simp [piece, ch_one]
        cases w with
        | nil =>
          simp only [conv, h1, ih [] trivial]
        | cons b w =>
          have hne : p.1 ≠ b := hw.1
          have f : (fun u : List α => piece p (p.1 :: b :: u)) = fun _ => 0 := by
            funext u
            have : ¬ b = p.1 := fun z => hne z.symm
            simp [piece, this]
          simp only [conv, h1, ih (b :: w) hw.tail]
          rw [f, conv_zero_left]
          omega
      · rw [if_neg e]
        have f : (fun u : List α => piece p (a :: u)) = fun _ => 0 := by
          funext u
          have : ¬ a = p.1 := fun z => e z.symm
          simp [piece, this]
        rw [f, conv_zero_left]
theorem picks_short : ∀ (c : List (α × Int)) (w : List α), c.length < w.length → picks w c = 0
  | [], [], h => by simp at h
  | [], _ :: _, _ => rfl
  | _ :: _, [], h => by simp at h
  | p :: c, a :: w, h => by
    have h1 := picks_short c (a :: w) (by simp at h ⊢; omega)
    have h2 := picks_short c w (by simp at h; omega)
    simp [picks, h1, h2]
noncomputable def prodT : List (α × Int) → Int
  | [] => 1
  | p :: c => p.2 * prodT c
theorem picks_row : ∀ c : List (α × Int), picks (c.map (·.1)) c = prodT c
  | [] => rfl
  | p :: c => by
    have h1 := picks_short c (p.1 :: c.map (·.1)) (by simp)
    simp [picks, h1, picks_row c, prodT]
theorem Red.unlike : ∀ {c : List (α × Int)}, Red c → Unlike (c.map (·.1))
  | [], _ => trivial
  | [_], _ => trivial
  | p :: q :: c, h => ⟨h.2.1, Red.unlike h.tail⟩
theorem prodT_ne : ∀ {c : List (α × Int)}, Red c → prodT c ≠ 0
  | [], _ => by simp [prodT]
  | p :: c, h => Int.mul_ne_zero h.head (prodT_ne h.tail)
theorem conv_snoc : ∀ (w : List α) (f g : List α → Int) (a : α), conv f g (w ++ [a]) = f (w ++ [a]) * g [] + conv f (fun v => g (v ++ [a])) w
  | [], f, g, a => by simp only [List.nil_append, conv]; omega
  | b :: w, f, g, a => by
    have ih := conv_snoc w (fun u => f (b :: u)) g a
    simp only [List.cons_append, conv]
    rw [ih]
    omega
theorem times_snoc (w : List α) (c : List (α × Int)) (p : α × Int) : times w (c ++ [p]) = conv (fun u => times u c) (piece p) w := by
  rw [times_append]
  refine conv_congr (fun _ => rfl) (fun v => ?_) w
  rw [times_cons]
  exact conv_eps v (piece p)
noncomputable def endSum (f : List α → Int) (p : α × Int) : List α → Nat → Int
  | [], k => f [] * ch p.2 k
  | a :: w, k => f (a :: w).reverse * ch p.2 k + (if a = p.1 then endSum f p w (k + 1) else 0)
theorem conv_zero_right (f : List α → Int) : ∀ w, conv f (fun _ => 0) w = 0
  | [] => by simp [conv]
  | a :: w => by simp [conv, conv_zero_right (fun u => f (a :: u)) w]
theorem conv_endSum (f : List α → Int) (p : α × Int) : ∀ (w : List α) (k : Nat), conv f (fun v => if v.all (fun b => decide (b = p.1)) then ch p.2 (v.length + k) else 0) w.reverse = endSum f p w k
  | [], k => by simp [conv, endSum]
  | a :: w, k => by
    rw [List.reverse_cons, conv_snoc]
    have ih := conv_endSum f p w (k + 1)
    simp only [List.all_nil, if_true, List.length_nil, Nat.zero_add, endSum, List.reverse_cons]
    congr 1
    by_cases e : a = p.1
    · rw [if_pos e, ← ih]
      refine conv_congr (fun _ => rfl) (fun v => ?_) _
      simp only [List.all_append, List.all_cons, List.all_nil, e, decide_true, Bool.and_true, List.length_append, List.length_cons, List.length_nil]
      rw [show v.length + (0 + 1) + k = v.length + (k + 1) by omega]
    · rw [if_neg e]
      have z : (fun v : List α => if ((v ++ [a]).all fun b => decide (b = p.1)) = true then ch p.2 ((v ++ [a]).length + k) else 0) = fun _ => 0 := by
        funext v
        simp [e]
      rw [z, conv_zero_right]
theorem times_endSum (w : List α) (c : List (α × Int)) (p : α × Int) : times w (c ++ [p]) = endSum (fun u => times u c) p w.reverse 0 := by
  rw [times_snoc, ← conv_endSum, List.reverse_reverse]
  rfl
theorem times_other (w : List α) (c d : List (α × Int)) : times w d = conv (fun u => times u c) (fun v => times v (contr c ++ d)) w := by
  rw [← times_append, ← List.append_assoc, times_append, conv_congr (fun u => times_back u c) (fun _ => rfl), eps_conv]
theorem conv_ends : ∀ (w : List α) (f g : List α → Int), (∀ u v, w = u ++ v → u ≠ [] → v ≠ [] → g v = 0) → w ≠ [] → conv f g w = f [] * g w + f w * g []
  | [], f, g, _, h => absurd rfl h
  | [a], f, g, _, _ => by simp [conv]
  | a :: b :: w, f, g, h, _ => by
    have ih := conv_ends (b :: w) (fun u => f (a :: u)) g (fun u v e hu hv => h (a :: u) v (by rw [e]; rfl) (by simp) hv) (by simp)
    have z : g (b :: w) = 0 := h [a] (b :: w) rfl (by simp) (by simp)
    rw [conv, ih, z]
    omega
theorem told_apart {w : List α} {c d : List (α × Int)} (hw : w ≠ []) (h0 : times w (contr c ++ d) ≠ 0) (hs : ∀ u v, w = u ++ v → u ≠ [] → v ≠ [] → times v (contr c ++ d) = 0) : times w d ≠ times w c := by
  have e := times_other w c d
  have one : ∀ c : List (α × Int), times ([] : List α) c = 1 := fun c => by rw [times_picks c [] trivial, picks_nil]
  rw [conv_ends w _ _ hs hw, one, one] at e
  omega
end
end NH
namespace NH
theorem ch_le (n : Int) : ∀ k : Nat, (ch n k).natAbs ≤ (n.natAbs + k) ^ k
  | 0 => by rw [ch_zero_right]; simp
  | k + 1 => by
    have h := ch_step n k
    have ih := ch_le n k
    have e : ((k : Int) + 1).natAbs * (ch n (k + 1)).natAbs = (n - k).natAbs * (ch n k).natAbs := by rw [← Int.natAbs_mul, h, Int.natAbs_mul]
    have k1 : ((k : Int) + 1).natAbs = k + 1 := by omega
    rw [k1] at e
    have h1 : (ch n (k + 1)).natAbs ≤ (k + 1) * (ch n (k + 1)).natAbs := Nat.le_mul_of_pos_left _ (by omega)
    have h2 : (n - k).natAbs ≤ n.natAbs + (k + 1) := by omega
    have h3 : (n.natAbs + k) ^ k ≤ (n.natAbs + (k + 1)) ^ k := Nat.pow_le_pow_left (by omega) k
    calc (ch n (k + 1)).natAbs ≤ (n - k).natAbs * (ch n k).natAbs := by rw [← e]; exact h1
      _ ≤ (n.natAbs + (k + 1)) * (n.natAbs + (k + 1)) ^ k := Nat.mul_le_mul h2 (Nat.le_trans ih h3)
      _ = (n.natAbs + (k + 1)) ^ (k + 1) := by rw [Nat.pow_succ, Nat.mul_comm]
section
variable {α : Type}
theorem conv_le {b : Nat} {L : Nat} {g : List α → Int} (hg : ∀ v, v.length ≤ L → (g v).natAbs ≤ b ^ v.length) : ∀ (w : List α) (f : List α → Int) (s a : Nat), w.length ≤ L → (∀ u, u.length ≤ w.length → (f u).natAbs ≤ s * a ^ u.length) → (conv f g w).natAbs ≤ s * (a + b) ^ w.length
  | [], f, s, a, hl, hf => by
    have h1 := hf [] (by simp)
    have h2 := hg [] (by simp)
    simp only [conv, Int.natAbs_mul, List.length_nil, Nat.pow_zero, Nat.mul_one] at h1 h2 ⊢
    calc (f []).natAbs * (g []).natAbs ≤ s * 1 := Nat.mul_le_mul h1 h2
      _ = s := Nat.mul_one s
  | x :: w, f, s, a, hl, hf => by
    have ih := conv_le hg w (fun u => f (x :: u)) (s * a) a (by simp at hl; omega) (fun u hu => by
      have := hf (x :: u) (by simpa using hu)
      rw [List.length_cons, Nat.pow_succ, Nat.mul_comm (a ^ u.length), ← Nat.mul_assoc] at this
      exact this)
    have h0 := hf [] (by simp)
    have hgw := hg (x :: w) hl
    simp only [List.length_nil, Nat.pow_zero, Nat.mul_one] at h0
    have t := Int.natAbs_add_le (f [] * g (x :: w)) (conv (fun u => f (x :: u)) g w)
    have e1 : (f [] * g (x :: w)).natAbs ≤ s * (b * (a + b) ^ w.length) := by
      rw [Int.natAbs_mul]
      refine Nat.mul_le_mul h0 (Nat.le_trans hgw ?_)
      rw [List.length_cons, Nat.pow_succ, Nat.mul_comm]
      exact Nat.mul_le_mul_left _ (Nat.pow_le_pow_left (by omega) _)
    have e2 : s * (a + b) ^ (x :: w).length = s * (b * (a + b) ^ w.length) + s * a * (a + b) ^ w.length := by
      rw [List.length_cons, Nat.pow_succ, Nat.mul_comm ((a + b) ^ w.length), Nat.add_mul, Nat.mul_add, Nat.mul_assoc, Nat.add_comm]
    show (f [] * g (x :: w) + conv (fun u => f (x :: u)) g w).natAbs ≤ _
    omega
variable [DecidableEq α]
noncomputable def sumT : List (α × Int) → Nat
  | [] => 0
  | p :: c => p.2.natAbs + sumT c
theorem piece_le (p : α × Int) {L : Nat} (w : List α) (h : w.length ≤ L) : (piece p w).natAbs ≤ (p.2.natAbs + L) ^ w.length := by
  unfold piece
  split
  · exact Nat.le_trans (ch_le p.2 w.length) (Nat.pow_le_pow_left (by omega) _)
  · simp
theorem times_le {L : Nat} : ∀ (c : List (α × Int)) (w : List α), w.length ≤ L → (times w c).natAbs ≤ (sumT c + L * c.length) ^ w.length
  | [], w, h => by
    rw [times_nil]
    cases w with
    | nil => simp [eps]
    | cons a w => simp [eps]
  | p :: c, w, h => by
    rw [times_cons]
    have := conv_le (b := sumT c + L * c.length) (L := L) (g := fun v => times v c) (fun v hv => times_le c v hv) w (piece p) 1 (p.2.natAbs + L) h (fun u hu => by rw [Nat.one_mul]; exact piece_le p u (by omega))
    rw [Nat.one_mul] at this
    refine Nat.le_trans this (Nat.pow_le_pow_left ?_ _)
    simp only [sumT, List.length_cons, Nat.mul_add]
    omega
theorem sumT_append : ∀ c d : List (α × Int), sumT (c ++ d) = sumT c + sumT d
  | [], d => by simp [sumT]
  | p :: c, d => by simp only [List.cons_append, sumT, sumT_append c d]; omega
theorem sumT_mem : ∀ {c : List (α × Int)} {p : α × Int}, p ∈ c → p.2.natAbs ≤ sumT c
  | q :: c, p, h => by
    simp only [sumT]
    rcases List.mem_cons.mp h with rfl | h
    · omega
    · have := sumT_mem h; omega
theorem sumT_reverse : ∀ c : List (α × Int), sumT c.reverse = sumT c
  | [] => rfl
  | p :: c => by rw [List.reverse_cons, sumT_append, sumT_reverse c]; simp only [sumT]; omega
theorem sumT_stp (r : List (α × Int)) (p : α × Int) : sumT (stp r p) ≤ p.2.natAbs + sumT r := by
  cases r with
  | nil => simp only [stp]; split <;> simp [sumT]
  | cons q r =>
    simp only [stp]
    split
    · split
      · simp only [sumT]; omega
      · simp only [sumT]; omega
    · split
      · simp only [sumT]; omega
      · simp only [sumT]; omega
end
end NH
namespace NH
section
variable {α : Type} [DecidableEq α]
theorem sumT_short (c : List (α × Int)) : sumT (short c) ≤ sumT c := by
  have h : ∀ (c r : List (α × Int)), sumT (c.foldl stp r) ≤ sumT r + sumT c := fun c => by
    induction c with
    | nil => intro r; simp [sumT]
    | cons p c ih =>
      intro r
      have h1 := ih (stp r p)
      have h2 := sumT_stp r p
      simp only [List.foldl_cons, sumT]
      omega
  have := h c []
  unfold short stk
  rw [sumT_reverse]
  simpa [sumT] using this
theorem sumT_of {B : Nat} : ∀ c : List (α × Int), (∀ p ∈ c, p.2.natAbs < B) → sumT c ≤ c.length * B
  | [], _ => by simp [sumT]
  | p :: c, h => by
    have h1 := h p (List.mem_cons_self ..)
    have h2 := sumT_of c fun q hq => h q (List.mem_cons_of_mem _ hq)
    simp only [sumT, List.length_cons, Nat.succ_mul]
    omega
noncomputable def lead (a : α) : List α → Nat
  | [] => 0
  | b :: r => if b = a then lead a r + 1 else 0
theorem lead_le (a : α) : ∀ r : List α, lead a r ≤ r.length
  | [] => Nat.le_refl _
  | b :: r => by have := lead_le a r; simp only [lead]; split <;> simp <;> omega
noncomputable def sumR (h : Nat → Int) : Nat → Int
  | 0 => 0
  | n + 1 => sumR h n + h n
theorem sumR_congr {h h' : Nat → Int} : ∀ (n : Nat), (∀ j, j < n → h j = h' j) → sumR h n = sumR h' n
  | 0, _ => rfl
  | n + 1, e => by rw [sumR, sumR, sumR_congr n fun j hj => e j (by omega), e n (by omega)]
theorem sumR_head (h : Nat → Int) : ∀ n, sumR h (n + 1) = h 0 + sumR (fun j => h (j + 1)) n
  | 0 => by simp [sumR]
  | n + 1 => by rw [sumR, sumR_head h n, sumR]; omega
theorem endSum_lead (f : List α → Int) (p : α × Int) : ∀ (r : List α) (k : Nat), endSum f p r k = f r.reverse * ch p.2 k + sumR (fun j => f (r.drop (j + 1)).reverse * ch p.2 (k + (j + 1))) (lead p.1 r)
  | [], k => by simp [endSum, lead, sumR]
  | a :: r, k => by
    rw [endSum]
    by_cases e : a = p.1
    · rw [if_pos e, endSum_lead f p r (k + 1)]
      simp only [lead, if_pos e]
      rw [sumR_head]
      simp only [List.drop_succ_cons, List.drop_zero, Nat.zero_add]
      rw [sumR_congr (lead p.1 r) (h' := fun j => f (r.drop (j + 1)).reverse * ch p.2 (k + (j + 1 + 1))) fun j _ => by rw [show k + 1 + (j + 1) = k + (j + 1 + 1) by omega]]
    · rw [if_neg e]
      simp only [lead, if_neg e, sumR]
noncomputable def beg (w : List α) (c : List (α × Int)) (k : Nat) : Int := times (w.take k) c
theorem take_rev_drop (w : List α) (k j : Nat) (h : k ≤ w.length) : ((w.take k).reverse.drop j).reverse = w.take (k - j) := by
  rw [List.drop_reverse, List.reverse_reverse, List.length_take, Nat.min_eq_left h, List.take_take, Nat.min_eq_left (by omega)]
theorem beg_more (w : List α) (c : List (α × Int)) (p : α × Int) (k : Nat) (h : k ≤ w.length) : beg w (c ++ [p]) k = beg w c k + sumR (fun j => beg w c (k - (j + 1)) * ch p.2 (j + 1)) (lead p.1 (w.take k).reverse) := by
  unfold beg
  rw [times_endSum, endSum_lead, List.reverse_reverse, ch_zero_right, Int.mul_one]
  congr 1
  refine sumR_congr _ fun j _ => ?_
  rw [take_rev_drop w k (j + 1) h, Nat.zero_add]
end
end NH
namespace NH
variable {α : Type} [DecidableEq α]
theorem picks_snoc (a : α) (p : α × Int) : ∀ (c : List (α × Int)) (w : List α), picks (w ++ [a]) (c ++ [p]) = picks (w ++ [a]) c + (if p.1 = a then picks w c * p.2 else 0)
  | [], [] => by
    simp only [List.nil_append, picks]
    split
    · grind
    · rfl
  | [], b :: w => by
    simp only [List.nil_append, List.cons_append, picks]
    have : picks (w ++ [a]) ([] : List (α × Int)) = 0 := by cases w <;> rfl
    rw [this]
    grind
  | q :: c, [] => by
    have ih := picks_snoc a p c []
    simp only [List.nil_append, List.cons_append, picks, picks_nil] at ih ⊢
    rw [ih]
    grind
  | q :: c, b :: w => by
    have ih := picks_snoc a p c (b :: w)
    have ih2 := picks_snoc a p c w
    simp only [List.cons_append, picks] at ih ⊢
    rw [ih, ih2]
    grind
noncomputable def mag : List (α × Int) → Nat
  | [] => 1
  | p :: c => (1 + p.2.natAbs) * mag c
theorem mag_pos : ∀ c : List (α × Int), 1 ≤ mag c
  | [] => Nat.le_refl _
  | p :: c => Nat.mul_pos (by omega) (mag_pos c)
theorem mag_append : ∀ c d : List (α × Int), mag (c ++ d) = mag c * mag d
  | [], d => by simp [mag]
  | p :: c, d => by simp only [List.cons_append, mag, mag_append c d, Nat.mul_assoc]
theorem picks_le : ∀ (c : List (α × Int)) (w : List α), (picks w c).natAbs ≤ mag c
  | c, [] => by rw [picks_nil]; exact mag_pos c
  | [], a :: w => by simp [picks]
  | p :: c, a :: w => by
    have h1 := picks_le c (a :: w)
    have h2 := picks_le c w
    simp only [picks, mag]
    have h3 : (if p.1 = a then p.2 * picks w c else 0).natAbs ≤ p.2.natAbs * mag c := by
      split
      · rw [Int.natAbs_mul]; exact Nat.mul_le_mul_left _ h2
      · simp
    have h4 := Int.natAbs_add_le (picks (a :: w) c) (if p.1 = a then p.2 * picks w c else 0)
    rw [Nat.add_mul, Nat.one_mul]
    omega
theorem mag_stp (r : List (α × Int)) (p : α × Int) : mag (stp r p) ≤ (1 + p.2.natAbs) * mag r := by
  cases r with
  | nil =>
    show mag (if p.2 = 0 then [] else [p]) ≤ _
    split <;> simp [mag]
  | cons x r =>
    rw [stp_cons, mag_append]
    have hm := mag_pos r
    have : mag (hd2 p x) ≤ (1 + p.2.natAbs) * (1 + x.2.natAbs) := by
      unfold hd2
      have pos : 1 ≤ (1 + p.2.natAbs) * (1 + x.2.natAbs) := Nat.mul_pos (by omega) (by omega)
      split
      · split
        · exact pos
        · simp only [mag]
          have := Int.natAbs_add_le x.2 p.2
          have h1 : p.2.natAbs * 1 ≤ p.2.natAbs * (1 + x.2.natAbs) := Nat.mul_le_mul_left _ (by omega)
          rw [Nat.mul_one, Nat.add_mul, Nat.one_mul]
          omega
      · split
        · simp only [mag]
          rw [Nat.mul_one, Nat.add_mul, Nat.one_mul]
          omega
        · simp [mag]
    calc mag (hd2 p x) * mag r ≤ ((1 + p.2.natAbs) * (1 + x.2.natAbs)) * mag r := Nat.mul_le_mul_right _ this
      _ = _ := by simp only [mag, Nat.mul_assoc]
theorem mag_runs : ∀ c : List (α × Int), mag (runs c) ≤ mag c
  | [] => Nat.le_refl _
  | p :: c => Nat.le_trans (mag_stp (runs c) p) (Nat.mul_le_mul_left _ (mag_runs c))
theorem mag_short (c : List (α × Int)) : mag (short c) ≤ mag c := by rw [short_eq_runs]; exact mag_runs c
theorem mag_bound {B : Nat} : ∀ c : List (α × Int), (∀ p ∈ c, p.2.natAbs < B) → mag c ≤ B ^ c.length
  | [], _ => Nat.le_refl _
  | p :: c, h => by
    have h1 := h p (List.mem_cons_self ..)
    have ih := mag_bound c fun q hq => h q (List.mem_cons_of_mem _ hq)
    rw [List.length_cons, Nat.pow_succ, Nat.mul_comm]
    exact Nat.mul_le_mul (by omega) ih
theorem mag_of_length {B n : Nat} (hB : 0 < B) (c : List (α × Int)) (h : ∀ p ∈ c, p.2.natAbs < B) (hl : c.length ≤ n) : mag c ≤ B ^ n := Nat.le_trans (mag_bound c h) (Nat.pow_le_pow_right hB hl)
theorem mag_mem : ∀ {c : List (α × Int)} {p : α × Int}, p ∈ c → p.2.natAbs < mag c
  | q :: c, p, h => by
    have hm := mag_pos c
    rcases List.mem_cons.mp h with e | e
    · subst e
      calc p.2.natAbs < 1 + p.2.natAbs := by omega
        _ = (1 + p.2.natAbs) * 1 := by omega
        _ ≤ _ := Nat.mul_le_mul_left _ hm
    · have := mag_mem e
      calc p.2.natAbs < mag c := this
        _ = 1 * mag c := by omega
        _ ≤ _ := Nat.mul_le_mul_right _ (by omega)
end NH
namespace Nh
open PySem L2 PL
noncomputable def CordOk (c : List Pc) : Prop := ∀ p ∈ c, p.1 < 128 ∧ p.2.natAbs < 2 ^ 100
theorem CordOk.n {c : List Pc} (h : CordOk c) : NailsOk c := fun p hp => (h p hp).1
theorem CordOk.append {c d : List Pc} (h : CordOk c) (h' : CordOk d) : CordOk (c ++ d) := fun p hp => (List.mem_append.mp hp).elim (h p) (h' p)
theorem CordOk.contr {c : List Pc} (h : CordOk c) : CordOk (NH.contr c) := fun p hp => by
  obtain ⟨q, hq, e⟩ := List.mem_map.mp hp
  subst e
  have := h q (List.mem_reverse.mp hq)
  exact ⟨this.1, by simpa using this.2⟩
theorem CordOk.cutL {c : List Pc} (h : CordOk c) (lo hi : Option Int) : CordOk (cutL c lo hi) := fun p hp => h p (cutL_mem hp)
theorem cord_nil : CordOk [] := fun _ z => by cases z
theorem CordOk.mag {c : List Pc} (h : CordOk c) {n : Nat} (hl : c.length ≤ n) : NH.mag c ≤ (2 ^ 100) ^ n := NH.mag_of_length (Nat.two_pow_pos _) c (fun p hp => (h p hp).2) hl
theorem okMul_b {i j : Int} (h1 : i.natAbs < 2 ^ 20000) (h2 : j.natAbs < 2 ^ 20000) : okMul i j = true := by
  have hb : bnd = ((2 ^ 20000 : Nat) : Int) := by unfold bnd; exact (Int.natCast_pow 2 20000).symm
  have e : -bnd < i ∧ i < bnd ∧ -bnd < j ∧ j < bnd := by
    rw [hb]
    generalize 2 ^ 20000 = B at h1 h2
    omega
  unfold okMul
  rw [decide_eq_true e, Bool.or_true]
end Nh
namespace NH
section
variable {α : Type} [DecidableEq α]
noncomputable def Rot (a b : List (α × Int)) : Prop := ∃ u v, a = u ++ v ∧ b = v ++ u
theorem Rot.refl (a : List (α × Int)) : Rot a a := ⟨[], a, rfl, by simp⟩
theorem Rot.symm {a b : List (α × Int)} (h : Rot a b) : Rot b a := let ⟨u, v, e, f⟩ := h; ⟨v, u, f, e⟩
theorem Rot.trans {a b c : List (α × Int)} (h : Rot a b) (k : Rot b c) : Rot a c := by
  obtain ⟨u, v, rfl, e⟩ := h
  obtain ⟨x, y, e2, rfl⟩ := k
  rw [e] at e2
  rcases List.append_eq_append_iff.mp e2 with ⟨w, e3, e4⟩ | ⟨w, e3, e4⟩
  · subst e3 e4
    exact ⟨w, y ++ v, by simp, by simp⟩
  · subst e3 e4
    exact ⟨u ++ x, w, by simp, by simp⟩
theorem Rot.eq {a b : List (α × Int)} (h : a = b) : Rot a b := h ▸ Rot.refl a
theorem Rot.len {a b : List (α × Int)} (h : Rot a b) : a.length = b.length := by
  obtain ⟨u, v, rfl, rfl⟩ := h
  simp [Nat.add_comm]
end
end NH
namespace NH
variable {α : Type} [DecidableEq α]
end NH
namespace Nhk15
open PySem L2 Nh PL
noncomputable def t_short_form_L0 : PGv := (gTupP 2 (gConsP (gNameP 2) (gConsP (gNameP 3) gNilP)))
noncomputable def g_short_form_L0 : PSv := (pSeq (pSet 4 (pVar 3))
  (pSeq (pIfS (tAndP (pTru (pVar 1)) (isB (pBin pEq false (pBin pIx false (pBin pIx false (pVar 1) (pUn dNeg (pC (.int 1)))) (pC (.int 0))) (pVar 2))))
  (pSet 4 (pBin pAdd false (pBin pIx false (pPop 1) (pC (.int 1))) (pVar 3)))
  pNext)
  (pIfS (isB (pBin pNe false (pVar 4) (pC (.int 0))))
  (pExpr (pAppend 1 (pTup (dCons (pVar 2) (dCons (pVar 4) dNil)))))
  pNext)))
noncomputable def g_short_form : PSv := (pSeq (pSet 1 (pLst dNil))
  (pSeq (pFor (iAny (pVar 0)) t_short_form_L0
  g_short_form_L0)
  (pRet (pVar 1))))
noncomputable def fn_short_form : List PyData → Option Sl := fnB 1 5 g_short_form
noncomputable def g_joined : PSv := (pRet (pBin pAdd false (pVar 0) (pVar 1)))
noncomputable def fn_joined : List PyData → Option Sl := fnB 2 2 g_joined
noncomputable def t_contrary_C0 : PGv := (gTupP 2 (gConsP (gNameP 0) (gConsP (gNameP 1) gNilP)))
noncomputable def e_contrary_C0 : PEv := (pTup (dCons (pVar 0) (dCons (pUn dNeg (pVar 1)) dNil)))
noncomputable def g_contrary : PSv := (pRet (pComp [none, none] (iRevP (pVar 0)) t_contrary_C0 tYesP e_contrary_C0))
noncomputable def fn_contrary : List PyData → Option Sl := fnB 1 1 g_contrary
noncomputable def t_piece_numbers_L0 : PGv := (gNameP 3)
noncomputable def g_piece_numbers_L0 : PSv := (pExpr (pAppend 2 (pBin pFdiv false (pBin pMul false (pBin pIx false (pVar 2) (pUn dNeg (pC (.int 1)))) (pBin pAdd false (pBin pSub false (pVar 0) (pVar 3)) (pC (.int 1)))) (pVar 3))))
noncomputable def g_piece_numbers : PSv := (pSeq (pSet 2 (pLst (dCons (pC (.int 1)) dNil)))
  (pSeq (pFor (iRng2P (aCons false (pC (.int 1)) (aCons false (pBin pAdd false (pVar 1) (pC (.int 1))) aNil))) t_piece_numbers_L0
  g_piece_numbers_L0)
  (pRet (pVar 2))))
noncomputable def fn_piece_numbers : List PyData → Option Sl := fnB 2 4 g_piece_numbers
noncomputable def t_stretches_of_L0 : PGv := (gNameP 2)
noncomputable def g_stretches_of_L0 : PSv := (pIfS (tAndP (isB (pBin (sc2 (dCmp .gt)) false (pVar 2) (pC (.int 0)))) (isB (pBin pEq false (pBin pIx false (pVar 0) (pVar 2)) (pBin pIx false (pVar 0) (pBin pSub false (pVar 2) (pC (.int 1)))))))
  (pExpr (pAppend 1 (pBin pAdd false (pBin pIx false (pVar 1) (pUn dNeg (pC (.int 1)))) (pC (.int 1)))))
  (pExpr (pAppend 1 (pC (.int 1)))))
noncomputable def g_stretches_of : PSv := (pSeq (pSet 1 (pLst dNil))
  (pSeq (pFor (iRng1P (aCons false (pCaS dLen (aCons false (pVar 0) aNil)) aNil)) t_stretches_of_L0
  g_stretches_of_L0)
  (pRet (pVar 1))))
noncomputable def fn_stretches_of : List PyData → Option Sl := fnB 1 3 g_stretches_of
noncomputable def t_cuts_by_nail_L1 : PGv := (gNameP 4)
noncomputable def g_cuts_by_nail_L1 : PSv := (pSdApp 2 (pBin pIx false (pVar 0) (pVar 3)) (pTup (dCons (pBin pAdd false (pVar 3) (pC (.int 1))) (dCons (pVar 4) dNil))))
noncomputable def t_cuts_by_nail_L0 : PGv := (gNameP 3)
noncomputable def g_cuts_by_nail_L0 : PSv := (pFor (iRng2P (aCons false (pC (.int 1)) (aCons false (pBin pAdd false (pBin pIx false (pVar 1) (pVar 3)) (pC (.int 1))) aNil))) t_cuts_by_nail_L1
  g_cuts_by_nail_L1)
noncomputable def g_cuts_by_nail : PSv := (pSeq (pSet 2 pNewD)
  (pSeq (pFor (iRng3P (aCons false (pBin pSub false (pCaS dLen (aCons false (pVar 0) aNil)) (pC (.int 1))) (aCons false (pUn dNeg (pC (.int 1))) (aCons false (pUn dNeg (pC (.int 1))) aNil)))) t_cuts_by_nail_L0
  g_cuts_by_nail_L0)
  (pRet (pVar 2))))
noncomputable def fn_cuts_by_nail : List PyData → Option Sl := fnB 2 5 g_cuts_by_nail
noncomputable def t_times_in_L0 : PGv := (gTupP 2 (gConsP (gNameP 6) (gConsP (gNameP 7) gNilP)))
noncomputable def g_times_in_L0 : PSv := (pIfS (pInD 4 (pVar 6))
  (pIO3 2 4 (pVar 6) (pCall fn_piece_numbers (aCons false (pVar 7) (aCons false (pVar 5) aNil))) fnAdd)
  pNext)
noncomputable def g_times_in : PSv := (pSeq (pSet 2 (pBin pAdd false (pLst (dCons (pC (.int 1)) dNil)) (pBin pMul false (pLst (dCons (pC (.int 0)) dNil)) (pCaS dLen (aCons false (pVar 0) aNil)))))
  (pSeq (pSet 3 (pCall fn_stretches_of (aCons false (pVar 0) aNil)))
  (pSeq (pSet 4 (pCall fn_cuts_by_nail (aCons false (pVar 0) (aCons false (pVar 3) aNil))))
  (pSeq (pSet 5 (pMaxD 0 (pVar 3)))
  (pSeq (pFor (iAny (pCall fn_short_form (aCons false (pVar 1) aNil))) t_times_in_L0
  g_times_in_L0)
  (pRet (pBin pIx false (pVar 2) (pCaS dLen (aCons false (pVar 0) aNil)))))))))
noncomputable def fn_times_in : List PyData → Option Sl := fnB 2 8 g_times_in
noncomputable def t_nails_in_order_C0 : PGv := (gTupP 2 (gConsP (gNameP 0) (gConsP (gNameP 1) gNilP)))
noncomputable def e_nails_in_order_C0 : PEv := (pVar 0)
noncomputable def g_nails_in_order : PSv := (pRet (pJoin "" (pComp [none, none] (iAny (pVar 0)) t_nails_in_order_C0 tYesP e_nails_in_order_C0)))
noncomputable def fn_nails_in_order : List PyData → Option Sl := fnB 1 1 g_nails_in_order
noncomputable def t_longer_end_L0 : PGv := (gNameP 6)
noncomputable def g_longer_end_L0 : PSv := (pSeq (pIfS (isB (pBin pEq false (pBin pIx false (pBin pIx false (pVar 0) (pVar 6)) (pC (.int 0))) (pVar 4)))
  (pSet 5 (pBin pAdd false (pVar 5) (pBin pMul false (pBin pIx false (pBin pIx false (pVar 0) (pVar 6)) (pC (.int 1))) (pBin pIx false (pVar 1) (pBin pAdd false (pVar 6) (pC (.int 1)))))))
  pNext)
  (pSetIx 3 (pVar 6) (pVar 5)))
noncomputable def g_longer_end : PSv := (pSeq (pSet 3 (pBin pMul false (pLst (dCons (pC (.int 0)) dNil)) (pCaS dLen (aCons false (pVar 1) aNil))))
  (pSeq (pSet 4 (pBin pIx false (pBin pIx false (pVar 0) (pUn dNeg (pVar 2))) (pC (.int 0))))
  (pSeq (pSet 5 (pC (.int 0)))
  (pSeq (pFor (iRng3P (aCons false (pBin pSub false (pCaS dLen (aCons false (pVar 0) aNil)) (pVar 2)) (aCons false (pUn dNeg (pC (.int 1))) (aCons false (pUn dNeg (pC (.int 1))) aNil)))) t_longer_end_L0
  g_longer_end_L0)
  (pRet (pVar 3))))))
noncomputable def fn_longer_end : List PyData → Option Sl := fnB 3 7 g_longer_end
noncomputable def c_shortest_end_L0 : PTv := (isB (pBin pEq false (pBin pIx false (pVar 2) (pC (.int 0))) (pC (.int 0))))
noncomputable def g_shortest_end_L0 : PSv := (pSeq (pSet 1 (pBin pAdd false (pVar 1) (pC (.int 1))))
  (pSet 2 (pCall fn_longer_end (aCons false (pVar 0) (aCons false (pVar 2) (aCons false (pVar 1) aNil))))))
noncomputable def g_shortest_end : PSv := (pSeq (pSet 1 (pC (.int 1)))
  (pSeq (pSet 2 (pCall fn_longer_end (aCons false (pVar 0) (aCons false (pBin pMul false (pLst (dCons (pC (.int 1)) dNil)) (pBin pAdd false (pCaS dLen (aCons false (pVar 0) aNil)) (pC (.int 1)))) (aCons false (pVar 1) aNil)))))
  (pSeq (pWhile c_shortest_end_L0 g_shortest_end_L0)
  (pRet (pCall fn_nails_in_order (aCons false (pCut false (pVar 0) (oSome (pUn dNeg (pVar 1))) oNone) aNil))))))
noncomputable def fn_shortest_end : List PyData → Option Sl := fnB 1 3 g_shortest_end
noncomputable def g_told_apart : PSv := (pSeq (pSet 2 (pCall fn_short_form (aCons false (pCall fn_joined (aCons false (pCall fn_contrary (aCons false (pVar 0) aNil)) (aCons false (pVar 1) aNil))) aNil)))
  (pSeq (pIfS (tNotP (pTru (pVar 2)))
  (pRet (pC .none))
  pNext)
  (pSeq (pSet 3 (pCall fn_shortest_end (aCons false (pVar 2) aNil)))
  (pRet (normX (pTupM (mCons (pVar 3) (mCons (pCall fn_times_in (aCons false (pVar 3) (aCons false (pVar 0) aNil))) (mCons (pCall fn_times_in (aCons false (pVar 3) (aCons false (pVar 1) aNil))) mNil)))))))))
noncomputable def fn_told_apart : List PyData → Option Sl := fnB 2 4 g_told_apart
noncomputable def g_law_at : PSv := (pSeq (pIfS (isB (pBin (sc2 dLt) false (pVar 1) (pCaS dLen (aCons false (pVar 0) aNil))))
  (pRet (pBin pIx false (pVar 0) (pVar 1)))
  pNext)
  (pRet (pC (.int 0))))
noncomputable def fn_law_at : List PyData → Option Sl := fnB 2 2 g_law_at
noncomputable def g_law_mix : PSv := (pSeq (pSet 2 (pBin pMod false (pBin pAdd false (pBin pAdd false (pBin pMul false (pBin pMod false (pVar 0) (pBin pPow false (pC (.int 10)) (pC (.int 40)))) (pBin pAdd false (pC (.int 62089911)) (pBin pMul false (pC (.int 2)) (pVar 1)))) (pBin pMul false (pC (.int 982451653)) (pVar 1))) (pC (.int 17))) (pC (.int 4294967291))))
  (pRet (pBin pMod false (pBin pMul false (pVar 2) (pBin pAdd false (pBin pAdd false (pBin pFdiv false (pVar 2) (pC (.int 1024))) (pBin pMul false (pC (.int 2)) (pVar 1))) (pC (.int 1)))) (pC (.int 4294967279)))))
noncomputable def fn_law_mix : List PyData → Option Sl := fnB 2 3 g_law_mix
noncomputable def t_law_contrary_C0 : PGv := (gTupP 2 (gConsP (gNameP 0) (gConsP (gNameP 1) gNilP)))
noncomputable def e_law_contrary_C0 : PEv := (pTup (dCons (pVar 0) (dCons (pBin pSub false (pC (.int 0)) (pVar 1)) dNil)))
noncomputable def g_law_contrary : PSv := (pRet (pComp [none, none] (iRevP (pVar 0)) t_law_contrary_C0 tYesP e_law_contrary_C0))
noncomputable def fn_law_contrary : List PyData → Option Sl := fnB 1 1 g_law_contrary
noncomputable def t_law_pieces_L0 : PGv := (gNameP 5)
noncomputable def g_law_pieces_L0 : PSv := (pSeq (pSet 6 (pVar 1))
  (pSeq (pIfS (tOrP (isB (pBin (sc2 dLt) false (pCaS dAbs (aCons false (pVar 0) aNil)) (pBin pPow false (pC (.int 10)) (pC (.int 18))))) (isB (pChain (dCmp .lt) (dCmp .lt) false false (pUn dNeg (pC (.int 28))) (pVar 1) (pC (.int 28)))))
  (pSet 6 (pCall fn_law_mix (aCons false (pVar 0) (aCons false (pVar 5) aNil))))
  pNext)
  (pSeq (pExpr (pAppend 4 (pTup (dCons (pBin pIx false (pC (.str "abcz")) (pBin pMod false (pVar 6) (pC (.int 4)))) (dCons (pBin pSub false (pBin pMod false (pBin pFdiv false (pVar 6) (pC (.int 4))) (pC (.int 7))) (pC (.int 3))) dNil)))))
  (pSet 1 (pBin pFdiv false (pVar 1) (pC (.int 28)))))))
noncomputable def g_law_pieces : PSv := (pSeq (pSet 1 (pBin pFdiv false (pVar 0) (pC (.int 5))))
  (pSeq (pIfS (isB (pBin pEq false (pBin pMod false (pVar 0) (pC (.int 5))) (pC (.int 2))))
  (pSeq (pSet 2 (pBin pIx false (pC (.str "abcdefghijklmnopqrstuvwxyz")) (pBin pMod false (pVar 1) (pC (.int 26)))))
  (pRet (pLst (dCons (pTup (dCons (pVar 2) (dCons (pBin pSub false (pBin pMod false (pBin pFdiv false (pVar 1) (pC (.int 26))) (pBin pSub false (pBin pMul false (pC (.int 2)) (pBin pPow false (pC (.int 10)) (pC (.int 30)))) (pC (.int 1)))) (pBin pSub false (pBin pPow false (pC (.int 10)) (pC (.int 30))) (pC (.int 1)))) dNil))) dNil))))
  pNext)
  (pSeq (pSet 3 (pBin pMod false (pVar 1) (pC (.int 13))))
  (pSeq (pSet 1 (pBin pFdiv false (pVar 1) (pC (.int 13))))
  (pSeq (pSet 4 (pLst dNil))
  (pSeq (pFor (iRng1P (aCons false (pVar 3) aNil)) t_law_pieces_L0
  g_law_pieces_L0)
  (pRet (pVar 4))))))))
noncomputable def fn_law_pieces : List PyData → Option Sl := fnB 1 7 g_law_pieces
noncomputable def t_law_cord_L0 : PGv := (gNameP 5)
noncomputable def g_law_cord_L0 : PSv := (pSeq (pSet 6 (pBin pMod false (pBin pFdiv false (pVar 5) (pC (.int 5))) (pBin pAdd false (pCaS dLen (aCons false (pVar 4) aNil)) (pC (.int 1)))))
  (pSeq (pIfS (isB (pBin pEq false (pBin pMod false (pVar 5) (pC (.int 5))) (pC (.int 3))))
  (pSet 4 (pBin pAdd false (pVar 4) (pCall fn_law_contrary (aCons false (pCut false (pVar 4) (oSome (pVar 6)) oNone) aNil))))
  (pIfS (isB (pBin pEq false (pBin pMod false (pVar 5) (pC (.int 5))) (pC (.int 4))))
  (pSeq (pSet 7 (pCall fn_law_pieces (aCons false (pBin pFdiv false (pVar 5) (pC (.int 5))) aNil)))
  (pSeq (pSet 7 (pBin pAdd false (pVar 7) (pCall fn_law_contrary (aCons false (pVar 7) aNil))))
  (pSet 4 (pBin pAdd false (pBin pAdd false (pCut false (pVar 4) oNone (oSome (pVar 6))) (pVar 7)) (pCut false (pVar 4) (oSome (pVar 6)) oNone)))))
  (pSet 4 (pBin pAdd false (pVar 4) (pCall fn_law_pieces (aCons false (pVar 5) aNil))))))
  (pSet 4 (pCut false (pVar 4) oNone (oSome (pVar 3))))))
noncomputable def g_law_cord : PSv := (pSeq (pSet 4 (pLst dNil))
  (pSeq (pFor (iAny (pBin pAdd false (pLst (dCons (pCall fn_law_at (aCons false (pVar 0) (aCons false (pVar 1) aNil))) dNil)) (pCut false (pVar 0) (oSome (pBin pAdd false (pVar 1) (pC (.int 1)))) (oSome (pVar 2))))) t_law_cord_L0
  g_law_cord_L0)
  (pRet (pVar 4))))
noncomputable def fn_law_cord : List PyData → Option Sl := fnB 4 8 g_law_cord
noncomputable def t_law_runs_L0 : PGv := (gTupP 2 (gConsP (gNameP 2) (gConsP (gNameP 3) gNilP)))
noncomputable def g_law_runs_L0 : PSv := (pSeq (pIfS (tAndP (isB (pBin pNe false (pVar 1) (pLst dNil))) (isB (pBin pEq false (pBin pIx false (pBin pIx false (pVar 1) (pUn dNeg (pC (.int 1)))) (pC (.int 0))) (pVar 2))))
  (pSet 3 (pBin pAdd true (pVar 3) (pBin pIx false (pPop 1) (pC (.int 1)))))
  pNext)
  (pIfS (isB (pBin pNe false (pVar 3) (pC (.int 0))))
  (pExpr (pAppend 1 (pTup (dCons (pVar 2) (dCons (pVar 3) dNil)))))
  pNext))
noncomputable def t_law_runs_C1 : PGv := (gNameP 0)
noncomputable def e_law_runs_C1 : PEv := (pVar 0)
noncomputable def g_law_runs : PSv := (pSeq (pSet 1 (pLst dNil))
  (pSeq (pFor (iRevP (pVar 0)) t_law_runs_L0
  g_law_runs_L0)
  (pRet (pComp [none] (iRevP (pVar 1)) t_law_runs_C1 tYesP e_law_runs_C1))))
noncomputable def fn_law_runs : List PyData → Option Sl := fnB 1 4 g_law_runs
noncomputable def t_law_tame_L0 : PGv := (gTupP 2 (gConsP (gNameP 2) (gConsP (gNameP 3) gNilP)))
noncomputable def g_law_tame_L0 : PSv := (pIfS (isB (pBin (sc2 dLt) false (pVar 3) (pC (.int 0))))
  (pExpr (pAppend 1 (pTup (dCons (pVar 2) (dCons (pBin pSub false (pC (.int 0)) (pBin pMod false (pBin pSub false (pC (.int 0)) (pVar 3)) (pC (.int 1000)))) dNil)))))
  (pExpr (pAppend 1 (pTup (dCons (pVar 2) (dCons (pBin pMod false (pVar 3) (pC (.int 1000))) dNil))))))
noncomputable def g_law_tame : PSv := (pSeq (pIfS (isB (pBin (sc2 dLt) false (pCaS dLen (aCons false (pVar 0) aNil)) (pC (.int 4))))
  (pRet (pVar 0))
  pNext)
  (pSeq (pSet 1 (pLst dNil))
  (pSeq (pFor (iAny (pVar 0)) t_law_tame_L0
  g_law_tame_L0)
  (pRet (pVar 1)))))
noncomputable def fn_law_tame : List PyData → Option Sl := fnB 1 4 g_law_tame
noncomputable def t_law_picks_L1 : PGv := (gNameP 5)
noncomputable def g_law_picks_L1 : PSv := (pIfS (isB (pBin pEq false (pBin pIx false (pVar 0) (pBin pSub false (pVar 5) (pC (.int 1)))) (pVar 3)))
  (pSetIx 2 (pVar 5) (pBin pAdd false (pBin pIx false (pVar 2) (pVar 5)) (pBin pMul false (pBin pIx false (pVar 2) (pBin pSub false (pVar 5) (pC (.int 1)))) (pVar 4))))
  pNext)
noncomputable def t_law_picks_L0 : PGv := (gTupP 2 (gConsP (gNameP 3) (gConsP (gNameP 4) gNilP)))
noncomputable def g_law_picks_L0 : PSv := (pFor (iRng3P (aCons false (pCaS dLen (aCons false (pVar 0) aNil)) (aCons false (pC (.int 0)) (aCons false (pUn dNeg (pC (.int 1))) aNil)))) t_law_picks_L1
  g_law_picks_L1)
noncomputable def g_law_picks : PSv := (pSeq (pSet 2 (pBin pAdd false (pLst (dCons (pC (.int 1)) dNil)) (pBin pMul false (pLst (dCons (pC (.int 0)) dNil)) (pCaS dLen (aCons false (pVar 0) aNil)))))
  (pSeq (pFor (iAny (pVar 1)) t_law_picks_L0
  g_law_picks_L0)
  (pRet (pBin pIx false (pVar 2) (pCaS dLen (aCons false (pVar 0) aNil))))))
noncomputable def fn_law_picks : List PyData → Option Sl := fnB 2 6 g_law_picks
noncomputable def g_law_second : PSv := (pSeq (pSet 3 (pCall fn_law_at (aCons false (pVar 1) (aCons false (pVar 2) aNil))))
  (pSeq (pSet 4 (pBin pMod false (pBin pFdiv false (pVar 3) (pC (.int 5))) (pBin pAdd false (pCaS dLen (aCons false (pVar 0) aNil)) (pC (.int 1)))))
  (pSeq (pSet 5 (pTup (dCons (pBin pIx false (pC (.str "abcz")) (pBin pMod false (pBin pFdiv false (pVar 3) (pC (.int 300))) (pC (.int 4)))) (dCons (pBin pSub false (pBin pMod false (pBin pFdiv false (pVar 3) (pC (.int 1200))) (pC (.int 9))) (pC (.int 4))) dNil))))
  (pSeq (pIfS (isB (pBin pEq false (pBin pMod false (pVar 3) (pC (.int 5))) (pC (.int 0))))
  (pRet (pCall fn_law_cord (aCons false (pVar 1) (aCons false (pVar 2) (aCons false (pC (.int 63)) (aCons false (pC (.int 40)) aNil))))))
  pNext)
  (pSeq (pIfS (isB (pBin pEq false (pBin pMod false (pVar 3) (pC (.int 5))) (pC (.int 1))))
  (pRet (pBin pAdd false (pBin pAdd false (pCut false (pVar 0) oNone (oSome (pVar 4))) (pLst (dCons (pVar 5) dNil))) (pCut false (pVar 0) (oSome (pVar 4)) oNone)))
  pNext)
  (pSeq (pIfS (isB (pBin pEq false (pBin pMod false (pVar 3) (pC (.int 5))) (pC (.int 2))))
  (pRet (pBin pAdd false (pBin pAdd false (pCut false (pVar 0) oNone (oSome (pVar 4))) (pLst (dCons (pVar 5) dNil))) (pCut false (pVar 0) (oSome (pBin pAdd false (pVar 4) (pC (.int 1)))) oNone)))
  pNext)
  (pSeq (pIfS (isB (pBin pEq false (pBin pMod false (pVar 3) (pC (.int 5))) (pC (.int 3))))
  (pRet (pBin pAdd false (pCut false (pVar 0) oNone (oSome (pVar 4))) (pCut false (pVar 0) (oSome (pBin pAdd false (pVar 4) (pC (.int 1)))) oNone)))
  pNext)
  (pRet (pBin pAdd false (pBin pAdd false (pCut false (pVar 0) oNone (oSome (pVar 4))) (pLst (dCons (pVar 5) (dCons (pTup (dCons (pBin pIx false (pVar 5) (pC (.int 0))) (dCons (pBin pSub false (pC (.int 0)) (pBin pIx false (pVar 5) (pC (.int 1)))) dNil))) dNil)))) (pCut false (pVar 0) (oSome (pVar 4)) oNone))))))))))
noncomputable def fn_law_second : List PyData → Option Sl := fnB 3 6 g_law_second
noncomputable def t_law_due_C0 : PGv := (gTupP 2 (gConsP (gNameP 0) (gConsP (gNameP 1) gNilP)))
noncomputable def e_law_due_C0 : PEv := (pVar 0)
noncomputable def t_law_due_L1 : PGv := (gNameP 4)
noncomputable def g_law_due_L1 : PSv := (pSeq (pSet 5 (pCut false (pVar 3) (oSome (pBin pSub false (pCaS dLen (aCons false (pVar 3) aNil)) (pVar 4))) oNone))
  (pIfS (isB (pBin pNe false (pCall fn_law_picks (aCons false (pVar 5) (aCons false (pVar 2) aNil))) (pC (.int 0))))
  (pRet (normX (pTupM (mCons (pVar 5) (mCons (pCall fn_law_picks (aCons false (pVar 5) (aCons false (pVar 0) aNil))) (mCons (pCall fn_law_picks (aCons false (pVar 5) (aCons false (pVar 1) aNil))) mNil))))))
  pNext))
noncomputable def g_law_due : PSv := (pSeq (pSet 2 (pCall fn_law_runs (aCons false (pBin pAdd false (pCall fn_law_contrary (aCons false (pVar 0) aNil)) (pVar 1)) aNil)))
  (pSeq (pSet 3 (pJoin "" (pComp [none, none] (iAny (pVar 2)) t_law_due_C0 tYesP e_law_due_C0)))
  (pSeq (pFor (iRng2P (aCons false (pC (.int 1)) (aCons false (pBin pAdd false (pCaS dLen (aCons false (pVar 3) aNil)) (pC (.int 1))) aNil))) t_law_due_L1
  g_law_due_L1)
  (pRet (pC .none)))))
noncomputable def fn_law_due : List PyData → Option Sl := fnB 2 6 g_law_due
noncomputable def t_law_L0 : PGv := (gNameP 7)
noncomputable def g_law_L0 : PSv := (pIfS (tOrP (tNotP (pTru (pUn (dIsi .int) (pVar 7)))) (pTru (pUn (dIsi .bool) (pVar 7))))
  (pRet (pC (.bool false)))
  pNext)
noncomputable def g_law : PSv := (pSeq (pSet 1 (pBin pFdiv false (pCaS dMin (aCons false (pCaS dLen (aCons false (pVar 0) aNil)) (aCons false (pC (.int 63)) aNil))) (pC (.int 2))))
  (pSeq (pSet 2 (pCall fn_law_cord (aCons false (pVar 0) (aCons false (pC (.int 0)) (aCons false (pVar 1) (aCons false (pC (.int 40)) aNil))))))
  (pSeq (pSet 3 (pCall fn_law_tame (aCons false (pCall fn_law_second (aCons false (pVar 2) (aCons false (pVar 0) (aCons false (pVar 1) aNil)))) aNil)))
  (pSeq (pSet 2 (pCall fn_law_tame (aCons false (pVar 2) aNil)))
  (pSeq (pSet 4 (pLst (dCons (pLstOf (pVar 2)) (dCons (pLstOf (pVar 3)) dNil))))
  (pSeq (pSet 5 (pCall fn_told_apart (aCons false (pBin pIx false (pVar 4) (pC (.int 0))) (aCons false (pBin pIx false (pVar 4) (pC (.int 1))) aNil))))
  (pSeq (pSet 6 (pCall fn_law_due (aCons false (pVar 2) (aCons false (pVar 3) aNil))))
  (pSeq (pIfS (tOrP (isB (pBin pNe false (pVar 4) (pLst (dCons (pVar 2) (dCons (pVar 3) dNil))))) (isB (pBin pNe false (pBin (sc2 (dIsN false)) false (pVar 5) (pC .none)) (pBin (sc2 (dIsN false)) false (pVar 6) (pC .none)))))
  (pRet (pC (.bool false)))
  pNext)
  (pSeq (pIfS (tOrP (isB (pBin (sc2 (dIsN true)) false (pCall fn_told_apart (aCons false (pVar 2) (aCons false (pLstOf (pVar 2)) aNil))) (pC .none))) (isB (pBin (sc2 (dIsN true)) false (pCall fn_told_apart (aCons false (pLst dNil) (aCons false (pLst dNil) aNil))) (pC .none))))
  (pRet (pC (.bool false)))
  pNext)
  (pSeq (pIfS (isB (pBin (sc2 (dIsN false)) false (pVar 6) (pC .none)))
  (pRet (pC (.bool true)))
  pNext)
  (pSeq (pIfS (tOrP (tNotP (pTru (pUn (dIsi .tuple) (pVar 5)))) (tOrP (isB (pBin pNe false (pCaS dLen (aCons false (pVar 5) aNil)) (pC (.int 3)))) (tNotP (pTru (pUn (dIsi .str) (pBin pIx false (pVar 5) (pC (.int 0))))))))
  (pRet (pC (.bool false)))
  pNext)
  (pSeq (pFor (iAny (pCutT false (pVar 5) (oSome (pC (.int 1))) oNone)) t_law_L0
  g_law_L0)
  (pRet (pAndV (pBin pEq false (pVar 5) (pVar 6)) (pBin pNe false (pBin pIx false (pVar 5) (pC (.int 1))) (pBin pIx false (pVar 5) (pC (.int 2))))))))))))))))))
noncomputable def fn_law : List PyData → Option Sl := fnB 1 8 g_law
end Nhk15
namespace Nhk15
open PySem L2 Nh PL
noncomputable def top (i : Nat) : Stmt := PySem.Challenge.pw_nailhang_k15_told_apart.main.body.getD i (.Pass ⟨0, 0, 0, 0⟩)
section
variable {P : Program} {w : World} {K : PySem.W.Frag} {mg : Str → Option Value} {base : Heap}
noncomputable abbrev s_short_form : Stmt := top 1
theorem sc_short_form : FnScope ["cord", "runs", "nail", "turns", "total"] ["cord"] (defScope s_short_form) := ⟨rfl, rfl, rfl, by decide +kernel, rfl, by decide +kernel, by decide +kernel⟩
theorem ok_short_form (D : Def K mg "short_form" s_short_form ["cord"]) (B : Bn mg)  : Own P w K mg base 1 "short_form" ["cord"] (spP K fn_short_form) := by
  delta fn_short_form
  refine ownP (g := g_short_form) D sc_short_form rfl rfl (by decide) fun f cdv A outer s H E hr => ?_
  delta g_short_form
  exact (xss_cons (xs_set 1 sc_short_form.nd (xe_lst xd_nil))
  (xss_cons (xs_for PassesOwn.never (by rfl) (xi_any (xe_var 0)) (by delta t_short_form_L0; exact (xg_tup (by rfl) (xgs_cons (xg_name 2 sc_short_form.nd) (xgs_cons (xg_name 3 sc_short_form.nd) xgs_nil))))
  (by delta g_short_form_L0; exact (xss_cons (xs_set 4 sc_short_form.nd (xe_var 3))
  (xss_cons (xs_if (xt_w (xw_and (xt_tru (xe_var 1)) (xw_and1 (xt_eq hr.units (xe_ix (xe_ix (xe_var 1) (xe_neg xe_int)) xe_int) (xe_var 2)))))
  (xss_one (xs_set 4 sc_short_form.nd (xe_add (xe_ix (xe_pop 1) xe_int) (xe_var 3))))
  xss_nil)
  (xss_one (xs_if (xt_ne hr.units (xe_var 4) xe_int)
  (xss_one (xs_expr (xe_append 1 (xe_tup (xd_cons (xe_var 2) (xd_cons (xe_var 4) xd_nil))))))
  xss_nil))))))
  (xss_one (xs_ret (xe_var 1)))))
noncomputable abbrev s_joined : Stmt := top 2
theorem sc_joined : FnScope ["one", "other"] ["one", "other"] (defScope s_joined) := ⟨rfl, rfl, rfl, by decide +kernel, rfl, by decide +kernel, by decide +kernel⟩
theorem ok_joined (D : Def K mg "joined" s_joined ["one", "other"]) (B : Bn mg)  : Own P w K mg base 1 "joined" ["one", "other"] (spP K fn_joined) := by
  delta fn_joined
  refine ownP (g := g_joined) D sc_joined rfl rfl (by decide) fun f cdv A outer s H E hr => ?_
  delta g_joined
  exact (xss_one (xs_ret (xe_add (xe_var 0) (xe_var 1))))
noncomputable abbrev s_contrary : Stmt := top 3
theorem sc_contrary : FnScope ["cord"] ["cord"] (defScope s_contrary) := ⟨rfl, rfl, rfl, by decide +kernel, rfl, by decide +kernel, by decide +kernel⟩
theorem ok_contrary (D : Def K mg "contrary" s_contrary ["cord"]) (B : Bn mg)  : Own P w K mg base 1 "contrary" ["cord"] (spP K fn_contrary) := by
  delta fn_contrary
  refine ownP (g := g_contrary) D sc_contrary rfl rfl (by decide) fun f cdv A outer s H E hr => ?_
  delta g_contrary
  exact (xss_one (xs_ret (xe_comp0 (N := ["nail", "turns"]) (js := [none, none]) compClosed (by rfl) (xi_rev (by rfl) (by exact B.reversed) (xe_var 0)) (fun _ _ _ _ => (by delta t_contrary_C0; exact (xg_tup (by rfl) (xgs_cons (xg_name 0 (show (["nail", "turns"] : List Str).Nodup by decide +kernel)) (xgs_cons (xg_name 1 (show (["nail", "turns"] : List Str).Nodup by decide +kernel)) xgs_nil))))) (fun _ _ _ _ => (by delta e_contrary_C0; exact (xe_tup (xd_cons (xe_var 0) (xd_cons (xe_neg (xe_var 1)) xd_nil))))))))
noncomputable abbrev s_piece_numbers : Stmt := top 5
theorem sc_piece_numbers : FnScope ["turns", "most", "numbers", "count"] ["turns", "most"] (defScope s_piece_numbers) := ⟨rfl, rfl, rfl, by decide +kernel, rfl, by decide +kernel, by decide +kernel⟩
theorem ok_piece_numbers (D : Def K mg "piece_numbers" s_piece_numbers ["turns", "most"]) (B : Bn mg)  : Own P w K mg base 1 "piece_numbers" ["turns", "most"] (spP K fn_piece_numbers) := by
  delta fn_piece_numbers
  refine ownP (g := g_piece_numbers) D sc_piece_numbers rfl rfl (by decide) fun f cdv A outer s H E hr => ?_
  delta g_piece_numbers
  exact (xss_cons (xs_set 2 sc_piece_numbers.nd (xe_lst (xd_cons xe_int xd_nil)))
  (xss_cons (xs_for PassesOwn.never (by rfl) (xi_range2 (by rfl) (by exact B.range) (xa_cons xe_int (xa_cons (xe_add (xe_var 1) xe_int) xa_nil))) (by delta t_piece_numbers_L0; exact (xg_name 3 sc_piece_numbers.nd))
  (by delta g_piece_numbers_L0; exact (xss_one (xs_expr (xe_append 2 (xe_fdiv (xe_mul (xe_ix (xe_var 2) (xe_neg xe_int)) (xe_add (xe_sub (xe_var 0) (xe_var 3)) xe_int)) (xe_var 3)))))))
  (xss_one (xs_ret (xe_var 2)))))
noncomputable abbrev s_stretches_of : Stmt := top 6
theorem sc_stretches_of : FnScope ["row", "lengths", "place"] ["row"] (defScope s_stretches_of) := ⟨rfl, rfl, rfl, by decide +kernel, rfl, by decide +kernel, by decide +kernel⟩
theorem ok_stretches_of (D : Def K mg "stretches_of" s_stretches_of ["row"]) (B : Bn mg)  : Own P w K mg base 1 "stretches_of" ["row"] (spP K fn_stretches_of) := by
  delta fn_stretches_of
  refine ownP (g := g_stretches_of) D sc_stretches_of rfl rfl (by decide) fun f cdv A outer s H E hr => ?_
  delta g_stretches_of
  exact (xss_cons (xs_set 1 sc_stretches_of.nd (xe_lst xd_nil))
  (xss_cons (xs_for PassesOwn.never (by rfl) (xi_range1 (by rfl) (by exact B.range) (xa_cons (xe_len (by rfl) (by exact B.len) (xa_cons (xe_var 0) xa_nil)) xa_nil)) (by delta t_stretches_of_L0; exact (xg_name 2 sc_stretches_of.nd))
  (by delta g_stretches_of_L0; exact (xss_one (xs_if (xt_w (xw_and (xt_cm .gt (xe_var 2) xe_int) (xw_and1 (xt_eq hr.units (xe_ix (xe_var 0) (xe_var 2)) (xe_ix (xe_var 0) (xe_sub (xe_var 2) xe_int))))))
  (xss_one (xs_expr (xe_append 1 (xe_add (xe_ix (xe_var 1) (xe_neg xe_int)) xe_int))))
  (xss_one (xs_expr (xe_append 1 xe_int)))))))
  (xss_one (xs_ret (xe_var 1)))))
noncomputable abbrev s_cuts_by_nail : Stmt := top 7
theorem sc_cuts_by_nail : FnScope ["row", "stretches", "cuts", "place", "count"] ["row", "stretches"] (defScope s_cuts_by_nail) := ⟨rfl, rfl, rfl, by decide +kernel, rfl, by decide +kernel, by decide +kernel⟩
theorem ok_cuts_by_nail (D : Def K mg "cuts_by_nail" s_cuts_by_nail ["row", "stretches"]) (B : Bn mg)  : Own P w K mg base 1 "cuts_by_nail" ["row", "stretches"] (spP K fn_cuts_by_nail) := by
  delta fn_cuts_by_nail
  refine ownP (g := g_cuts_by_nail) D sc_cuts_by_nail rfl rfl (by decide) fun f cdv A outer s H E hr => ?_
  delta g_cuts_by_nail
  exact (xss_cons (xs_set 2 sc_cuts_by_nail.nd xe_newD)
  (xss_cons (xs_for PassesOwn.never (by rfl) (xi_range3 (by rfl) (by exact B.range) (xa_cons (xe_sub (xe_len (by rfl) (by exact B.len) (xa_cons (xe_var 0) xa_nil)) xe_int) (xa_cons (xe_neg xe_int) (xa_cons (xe_neg xe_int) xa_nil)))) (by delta t_cuts_by_nail_L0; exact (xg_name 3 sc_cuts_by_nail.nd))
  (by delta g_cuts_by_nail_L0; exact (xss_one (xs_for PassesOwn.never (by rfl) (xi_range2 (by rfl) (by exact B.range) (xa_cons xe_int (xa_cons (xe_add (xe_ix (xe_var 1) (xe_var 3)) xe_int) xa_nil))) (by delta t_cuts_by_nail_L1; exact (xg_name 4 sc_cuts_by_nail.nd))
  (by delta g_cuts_by_nail_L1; exact (xss_one (xs_sdapp 2 (xe_ix (xe_var 0) (xe_var 3)) (xe_tup (xd_cons (xe_add (xe_var 3) xe_int) (xd_cons (xe_var 4) xd_nil))))))))))
  (xss_one (xs_ret (xe_var 2)))))
noncomputable abbrev s_add_piece : Stmt := top 8
theorem sc_add_piece : FnScope ["numbers", "cuts", "single", "length", "count"] ["numbers", "cuts", "single"] (defScope s_add_piece) := ⟨rfl, rfl, rfl, by decide +kernel, rfl, by decide +kernel, by decide +kernel⟩
theorem ok_add_piece (D : Def K mg "add_piece" s_add_piece ["numbers", "cuts", "single"]) (B : Bn mg) : Own P w K mg base 1 "add_piece" ["numbers", "cuts", "single"] (spI K fnAdd) := by
  refine D.own sc_add_piece (fun vs H Q E h => spI_len h) (fun f cdv A outer s H vs Q E hr h => ?_)
  refine ⟨_, (pss_one (ps_for PassesOwn.never rfl (pi_list (pv 1)) (pg_tup rfl (pgs_cons (pg_name (i := 3) sc_add_piece.nd rfl (Or.inl rfl)) (pgs_cons (pg_name (i := 4) sc_add_piece.nd rfl (Or.inl rfl)) pgs_nil)))
    (pss_one (ps_asg (pe_op op_addU (pe_ix ix_list (pv 0) (pv 3) (fun _ _ => rfl)) (pe_op op_mulU (pe_ix ix_list (pv 2) (pv 4) (fun _ _ => rfl)) (pe_ix ix_list (pv 0) (pe_op op_subC (pv 3) (pv 4)) (fun _ _ => rfl)))) (pg_sub (pv 0) (pv 3) set_list))))), ?_⟩
  exact spI_run h
noncomputable abbrev s_times_in : Stmt := top 9
theorem sc_times_in : FnScope ["row", "cord", "numbers", "stretches", "cuts", "longest", "nail", "turns"] ["row", "cord"] (defScope s_times_in) := ⟨rfl, rfl, rfl, by decide +kernel, rfl, by decide +kernel, by decide +kernel⟩
theorem ok_times_in (D : Def K mg "times_in" s_times_in ["row", "cord"]) (B : Bn mg) (D_stretches_of : Own P w K mg base 1 "stretches_of" ["row"] (spP K fn_stretches_of)) (D_cuts_by_nail : Own P w K mg base 1 "cuts_by_nail" ["row", "stretches"] (spP K fn_cuts_by_nail)) (D_short_form : Own P w K mg base 1 "short_form" ["cord"] (spP K fn_short_form)) (D_piece_numbers : Own P w K mg base 1 "piece_numbers" ["turns", "most"] (spP K fn_piece_numbers)) (D_add_piece : Own P w K mg base 1 "add_piece" ["numbers", "cuts", "single"] (spI K fnAdd)) : Own P w K mg base 2 "times_in" ["row", "cord"] (spP K fn_times_in) := by
  delta fn_times_in
  refine ownP (g := g_times_in) D sc_times_in rfl rfl (by decide) fun f cdv A outer s H E hr => ?_
  delta g_times_in
  exact (xss_cons (xs_set 2 sc_times_in.nd (xe_add (xe_lst (xd_cons xe_int xd_nil)) (xe_mul (xe_lst (xd_cons xe_int xd_nil)) (xe_len (by rfl) (by exact B.len) (xa_cons (xe_var 0) xa_nil)))))
  (xss_cons (xs_set 3 sc_times_in.nd (xe_own D_stretches_of (hr.mono (by decide)) (by rfl) (xa_cons (xe_var 0) xa_nil)))
  (xss_cons (xs_set 4 sc_times_in.nd (xe_own D_cuts_by_nail (hr.mono (by decide)) (by rfl) (xa_cons (xe_var 0) (xa_cons (xe_var 3) xa_nil))))
  (xss_cons (xs_set 5 sc_times_in.nd (xe_maxD rfl (by rfl) (by exact B.max) (xe_var 3)))
  (xss_cons (xs_for PassesOwn.never (by rfl) (xi_any (xe_own D_short_form (hr.mono (by decide)) (by rfl) (xa_cons (xe_var 1) xa_nil))) (by delta t_times_in_L0; exact (xg_tup (by rfl) (xgs_cons (xg_name 6 sc_times_in.nd) (xgs_cons (xg_name 7 sc_times_in.nd) xgs_nil))))
  (by delta g_times_in_L0; exact (xss_one (xs_if (xt_inD 4 hr.units (xe_var 6))
  (xss_one (xs_io3 2 4 D_add_piece (hr.mono (by decide)) hr.units (by rfl) (xe_var 6) (xe_own D_piece_numbers (hr.mono (by decide)) (by rfl) (xa_cons (xe_var 7) (xa_cons (xe_var 5) xa_nil)))))
  xss_nil))))
  (xss_one (xs_ret (xe_ix (xe_var 2) (xe_len (by rfl) (by exact B.len) (xa_cons (xe_var 0) xa_nil))))))))))
noncomputable abbrev s_nails_in_order : Stmt := top 11
theorem sc_nails_in_order : FnScope ["runs"] ["runs"] (defScope s_nails_in_order) := ⟨rfl, rfl, rfl, by decide +kernel, rfl, by decide +kernel, by decide +kernel⟩
theorem ok_nails_in_order (D : Def K mg "nails_in_order" s_nails_in_order ["runs"]) (B : Bn mg)  : Own P w K mg base 1 "nails_in_order" ["runs"] (spP K fn_nails_in_order) := by
  delta fn_nails_in_order
  refine ownP (g := g_nails_in_order) D sc_nails_in_order rfl rfl (by decide) fun f cdv A outer s H E hr => ?_
  delta g_nails_in_order
  exact (xss_one (xs_ret (xe_join (xe_comp0 (N := ["nail", "turns"]) (js := [none, none]) compClosed (by rfl) (xi_any (xe_var 0)) (fun _ _ _ _ => (by delta t_nails_in_order_C0; exact (xg_tup (by rfl) (xgs_cons (xg_name 0 (show (["nail", "turns"] : List Str).Nodup by decide +kernel)) (xgs_cons (xg_name 1 (show (["nail", "turns"] : List Str).Nodup by decide +kernel)) xgs_nil))))) (fun _ _ _ _ => (by delta e_nails_in_order_C0; exact (xe_var 0)))))))
noncomputable abbrev s_longer_end : Stmt := top 12
theorem sc_longer_end : FnScope ["runs", "numbers", "length", "told", "nail", "total", "place"] ["runs", "numbers", "length"] (defScope s_longer_end) := ⟨rfl, rfl, rfl, by decide +kernel, rfl, by decide +kernel, by decide +kernel⟩
theorem ok_longer_end (D : Def K mg "longer_end" s_longer_end ["runs", "numbers", "length"]) (B : Bn mg)  : Own P w K mg base 1 "longer_end" ["runs", "numbers", "length"] (spP K fn_longer_end) := by
  delta fn_longer_end
  refine ownP (g := g_longer_end) D sc_longer_end rfl rfl (by decide) fun f cdv A outer s H E hr => ?_
  delta g_longer_end
  exact (xss_cons (xs_set 3 sc_longer_end.nd (xe_mul (xe_lst (xd_cons xe_int xd_nil)) (xe_len (by rfl) (by exact B.len) (xa_cons (xe_var 1) xa_nil))))
  (xss_cons (xs_set 4 sc_longer_end.nd (xe_ix (xe_ix (xe_var 0) (xe_neg (xe_var 2))) xe_int))
  (xss_cons (xs_set 5 sc_longer_end.nd xe_int)
  (xss_cons (xs_for PassesOwn.never (by rfl) (xi_range3 (by rfl) (by exact B.range) (xa_cons (xe_sub (xe_len (by rfl) (by exact B.len) (xa_cons (xe_var 0) xa_nil)) (xe_var 2)) (xa_cons (xe_neg xe_int) (xa_cons (xe_neg xe_int) xa_nil)))) (by delta t_longer_end_L0; exact (xg_name 6 sc_longer_end.nd))
  (by delta g_longer_end_L0; exact (xss_cons (xs_if (xt_eq hr.units (xe_ix (xe_ix (xe_var 0) (xe_var 6)) xe_int) (xe_var 4))
  (xss_one (xs_set 5 sc_longer_end.nd (xe_add (xe_var 5) (xe_mul (xe_ix (xe_ix (xe_var 0) (xe_var 6)) xe_int) (xe_ix (xe_var 1) (xe_add (xe_var 6) xe_int))))))
  xss_nil)
  (xss_one (xs_setix 3 (xe_var 5) (xe_var 6))))))
  (xss_one (xs_ret (xe_var 3)))))))
noncomputable abbrev s_shortest_end : Stmt := top 13
theorem sc_shortest_end : FnScope ["runs", "length", "numbers"] ["runs"] (defScope s_shortest_end) := ⟨rfl, rfl, rfl, by decide +kernel, rfl, by decide +kernel, by decide +kernel⟩
theorem ok_shortest_end (D : Def K mg "shortest_end" s_shortest_end ["runs"]) (B : Bn mg) (D_longer_end : Own P w K mg base 1 "longer_end" ["runs", "numbers", "length"] (spP K fn_longer_end)) (D_nails_in_order : Own P w K mg base 1 "nails_in_order" ["runs"] (spP K fn_nails_in_order)) : Own P w K mg base 2 "shortest_end" ["runs"] (spP K fn_shortest_end) := by
  delta fn_shortest_end
  refine ownP (g := g_shortest_end) D sc_shortest_end rfl rfl (by decide) fun f cdv A outer s H E hr => ?_
  delta g_shortest_end
  exact (xss_cons (xs_set 1 sc_shortest_end.nd xe_int)
  (xss_cons (xs_set 2 sc_shortest_end.nd (xe_own D_longer_end (hr.mono (by decide)) (by rfl) (xa_cons (xe_var 0) (xa_cons (xe_mul (xe_lst (xd_cons xe_int xd_nil)) (xe_add (xe_len (by rfl) (by exact B.len) (xa_cons (xe_var 0) xa_nil)) xe_int)) (xa_cons (xe_var 1) xa_nil)))))
  (xss_cons (xs_while PassesOwn.never (by delta c_shortest_end_L0; exact (xt_eq hr.units (xe_ix (xe_var 2) xe_int) xe_int))
  (by delta g_shortest_end_L0; exact (xss_cons (xs_set 1 sc_shortest_end.nd (xe_add (xe_var 1) xe_int))
  (xss_one (xs_set 2 sc_shortest_end.nd (xe_own D_longer_end (hr.mono (by decide)) (by rfl) (xa_cons (xe_var 0) (xa_cons (xe_var 2) (xa_cons (xe_var 1) xa_nil)))))))))
  (xss_one (xs_ret (xe_own D_nails_in_order (hr.mono (by decide)) (by rfl) (xa_cons (xe_cut (xe_var 0) (xo_some (xe_neg (xe_var 1))) xo_none) xa_nil)))))))
noncomputable abbrev s_told_apart : Stmt := top 14
theorem sc_told_apart : FnScope ["one", "other", "third", "row"] ["one", "other"] (defScope s_told_apart) := ⟨rfl, rfl, rfl, by decide +kernel, rfl, by decide +kernel, by decide +kernel⟩
theorem ok_told_apart (D : Def K mg "told_apart" s_told_apart ["one", "other"]) (B : Bn mg) (D_contrary : Own P w K mg base 1 "contrary" ["cord"] (spP K fn_contrary)) (D_joined : Own P w K mg base 1 "joined" ["one", "other"] (spP K fn_joined)) (D_short_form : Own P w K mg base 1 "short_form" ["cord"] (spP K fn_short_form)) (D_shortest_end : Own P w K mg base 2 "shortest_end" ["runs"] (spP K fn_shortest_end)) (D_times_in : Own P w K mg base 2 "times_in" ["row", "cord"] (spP K fn_times_in)) : Own P w K mg base 3 "told_apart" ["one", "other"] (spP K fn_told_apart) := by
  delta fn_told_apart
  refine ownP (g := g_told_apart) D sc_told_apart rfl rfl (by decide) fun f cdv A outer s H E hr => ?_
  delta g_told_apart
  exact (xss_cons (xs_set 2 sc_told_apart.nd (xe_own D_short_form (hr.mono (by decide)) (by rfl) (xa_cons (xe_own D_joined (hr.mono (by decide)) (by rfl) (xa_cons (xe_own D_contrary (hr.mono (by decide)) (by rfl) (xa_cons (xe_var 0) xa_nil)) (xa_cons (xe_var 1) xa_nil))) xa_nil)))
  (xss_cons (xs_if (xt_not (xt_tru (xe_var 2)))
  (xss_one (xs_ret xe_non))
  xss_nil)
  (xss_cons (xs_set 3 sc_told_apart.nd (xe_own D_shortest_end (hr.mono (by decide)) (by rfl) (xa_cons (xe_var 2) xa_nil)))
  (xss_one (xs_ret (xe_norm (xe_tupM (xm_cons (xe_var 3) (xm_cons (xe_own D_times_in (hr.mono (by decide)) (by rfl) (xa_cons (xe_var 3) (xa_cons (xe_var 0) xa_nil))) (xm_cons (xe_own D_times_in (hr.mono (by decide)) (by rfl) (xa_cons (xe_var 3) (xa_cons (xe_var 1) xa_nil))) xm_nil))))))))))
noncomputable abbrev s_law_at : Stmt := top 16
theorem sc_law_at : FnScope ["_law_script", "_law_k"] ["_law_script", "_law_k"] (defScope s_law_at) := ⟨rfl, rfl, rfl, by decide +kernel, rfl, by decide +kernel, by decide +kernel⟩
theorem ok_law_at (D : Def K mg "_law_at" s_law_at ["_law_script", "_law_k"]) (B : Bn mg)  : Own P w K mg base 1 "_law_at" ["_law_script", "_law_k"] (spP K fn_law_at) := by
  delta fn_law_at
  refine ownP (g := g_law_at) D sc_law_at rfl rfl (by decide) fun f cdv A outer s H E hr => ?_
  delta g_law_at
  exact (xss_cons (xs_if (xt_ltU hr.units2 (xe_var 1) (xe_len (by rfl) (by exact B.len) (xa_cons (xe_var 0) xa_nil)))
  (xss_one (xs_ret (xe_ix (xe_var 0) (xe_var 1))))
  xss_nil)
  (xss_one (xs_ret xe_int)))
noncomputable abbrev s_law_mix : Stmt := top 17
theorem sc_law_mix : FnScope ["_law_cell", "_law_k", "_law_one"] ["_law_cell", "_law_k"] (defScope s_law_mix) := ⟨rfl, rfl, rfl, by decide +kernel, rfl, by decide +kernel, by decide +kernel⟩
theorem ok_law_mix (D : Def K mg "_law_mix" s_law_mix ["_law_cell", "_law_k"]) (B : Bn mg)  : Own P w K mg base 1 "_law_mix" ["_law_cell", "_law_k"] (spP K fn_law_mix) := by
  delta fn_law_mix
  refine ownP (g := g_law_mix) D sc_law_mix rfl rfl (by decide) fun f cdv A outer s H E hr => ?_
  delta g_law_mix
  exact (xss_cons (xs_set 2 sc_law_mix.nd (xe_mod (xe_add (xe_add (xe_mul (xe_mod (xe_var 0) (xe_pow xe_int xe_int)) (xe_add xe_int (xe_mul xe_int (xe_var 1)))) (xe_mul xe_int (xe_var 1))) xe_int) xe_int))
  (xss_one (xs_ret (xe_mod (xe_mul (xe_var 2) (xe_add (xe_add (xe_fdiv (xe_var 2) xe_int) (xe_mul xe_int (xe_var 1))) xe_int)) xe_int))))
noncomputable abbrev s_law_contrary : Stmt := top 18
theorem sc_law_contrary : FnScope ["_law_cord_here"] ["_law_cord_here"] (defScope s_law_contrary) := ⟨rfl, rfl, rfl, by decide +kernel, rfl, by decide +kernel, by decide +kernel⟩
theorem ok_law_contrary (D : Def K mg "_law_contrary" s_law_contrary ["_law_cord_here"]) (B : Bn mg)  : Own P w K mg base 1 "_law_contrary" ["_law_cord_here"] (spP K fn_law_contrary) := by
  delta fn_law_contrary
  refine ownP (g := g_law_contrary) D sc_law_contrary rfl rfl (by decide) fun f cdv A outer s H E hr => ?_
  delta g_law_contrary
  exact (xss_one (xs_ret (xe_comp0 (N := ["_law_nail", "_law_turns"]) (js := [none, none]) compClosed (by rfl) (xi_rev (by rfl) (by exact B.reversed) (xe_var 0)) (fun _ _ _ _ => (by delta t_law_contrary_C0; exact (xg_tup (by rfl) (xgs_cons (xg_name 0 (show (["_law_nail", "_law_turns"] : List Str).Nodup by decide +kernel)) (xgs_cons (xg_name 1 (show (["_law_nail", "_law_turns"] : List Str).Nodup by decide +kernel)) xgs_nil))))) (fun _ _ _ _ => (by delta e_law_contrary_C0; exact (xe_tup (xd_cons (xe_var 0) (xd_cons (xe_sub xe_int (xe_var 1)) xd_nil))))))))
noncomputable abbrev s_law_pieces : Stmt := top 19
theorem sc_law_pieces : FnScope ["_law_cell", "_law_rest", "_law_nail", "_law_many", "_law_found", "_law_k", "_law_value"] ["_law_cell"] (defScope s_law_pieces) := ⟨rfl, rfl, rfl, by decide +kernel, rfl, by decide +kernel, by decide +kernel⟩
theorem ok_law_pieces (D : Def K mg "_law_pieces" s_law_pieces ["_law_cell"]) (B : Bn mg) (D_law_mix : Own P w K mg base 1 "_law_mix" ["_law_cell", "_law_k"] (spP K fn_law_mix)) : Own P w K mg base 2 "_law_pieces" ["_law_cell"] (spP K fn_law_pieces) := by
  delta fn_law_pieces
  refine ownP (g := g_law_pieces) D sc_law_pieces rfl rfl (by decide) fun f cdv A outer s H E hr => ?_
  delta g_law_pieces
  exact (xss_cons (xs_set 1 sc_law_pieces.nd (xe_fdiv (xe_var 0) xe_int))
  (xss_cons (xs_if (xt_eq hr.units (xe_mod (xe_var 0) xe_int) xe_int)
  (xss_cons (xs_set 2 sc_law_pieces.nd (xe_ix xe_str (xe_mod (xe_var 1) xe_int)))
  (xss_one (xs_ret (xe_lst (xd_cons (xe_tup (xd_cons (xe_var 2) (xd_cons (xe_sub (xe_mod (xe_fdiv (xe_var 1) xe_int) (xe_sub (xe_mul xe_int (xe_pow xe_int xe_int)) xe_int)) (xe_sub (xe_pow xe_int xe_int) xe_int)) xd_nil))) xd_nil)))))
  xss_nil)
  (xss_cons (xs_set 3 sc_law_pieces.nd (xe_mod (xe_var 1) xe_int))
  (xss_cons (xs_set 1 sc_law_pieces.nd (xe_fdiv (xe_var 1) xe_int))
  (xss_cons (xs_set 4 sc_law_pieces.nd (xe_lst xd_nil))
  (xss_cons (xs_for PassesOwn.never (by rfl) (xi_range1 (by rfl) (by exact B.range) (xa_cons (xe_var 3) xa_nil)) (by delta t_law_pieces_L0; exact (xg_name 5 sc_law_pieces.nd))
  (by delta g_law_pieces_L0; exact (xss_cons (xs_set 6 sc_law_pieces.nd (xe_var 1))
  (xss_cons (xs_if (xt_w (xw_or (xt_ltU hr.units2 (xe_abs (by rfl) (by exact B.abs) (xa_cons (xe_var 0) xa_nil)) (xe_pow xe_int xe_int)) (xw_or1 (xt_ch .lt .lt (xe_neg xe_int) (xe_var 1) xe_int))))
  (xss_one (xs_set 6 sc_law_pieces.nd (xe_own D_law_mix (hr.mono (by decide)) (by rfl) (xa_cons (xe_var 0) (xa_cons (xe_var 5) xa_nil)))))
  xss_nil)
  (xss_cons (xs_expr (xe_append 4 (xe_tup (xd_cons (xe_ix xe_str (xe_mod (xe_var 6) xe_int)) (xd_cons (xe_sub (xe_mod (xe_fdiv (xe_var 6) xe_int) xe_int) xe_int) xd_nil)))))
  (xss_one (xs_set 1 sc_law_pieces.nd (xe_fdiv (xe_var 1) xe_int))))))))
  (xss_one (xs_ret (xe_var 4)))))))))
noncomputable abbrev s_law_cord : Stmt := top 20
theorem sc_law_cord : FnScope ["_law_script", "_law_first", "_law_last", "_law_most", "_law_cord_here", "_law_cell", "_law_at_here", "_law_pieces_here"] ["_law_script", "_law_first", "_law_last", "_law_most"] (defScope s_law_cord) := ⟨rfl, rfl, rfl, by decide +kernel, rfl, by decide +kernel, by decide +kernel⟩
theorem ok_law_cord (D : Def K mg "_law_cord" s_law_cord ["_law_script", "_law_first", "_law_last", "_law_most"]) (B : Bn mg) (D_law_at : Own P w K mg base 1 "_law_at" ["_law_script", "_law_k"] (spP K fn_law_at)) (D_law_contrary : Own P w K mg base 1 "_law_contrary" ["_law_cord_here"] (spP K fn_law_contrary)) (D_law_pieces : Own P w K mg base 2 "_law_pieces" ["_law_cell"] (spP K fn_law_pieces)) : Own P w K mg base 3 "_law_cord" ["_law_script", "_law_first", "_law_last", "_law_most"] (spP K fn_law_cord) := by
  delta fn_law_cord
  refine ownP (g := g_law_cord) D sc_law_cord rfl rfl (by decide) fun f cdv A outer s H E hr => ?_
  delta g_law_cord
  exact (xss_cons (xs_set 4 sc_law_cord.nd (xe_lst xd_nil))
  (xss_cons (xs_for PassesOwn.never (by rfl) (xi_any (xe_add (xe_lst (xd_cons (xe_own D_law_at (hr.mono (by decide)) (by rfl) (xa_cons (xe_var 0) (xa_cons (xe_var 1) xa_nil))) xd_nil)) (xe_cut (xe_var 0) (xo_some (xe_add (xe_var 1) xe_int)) (xo_some (xe_var 2))))) (by delta t_law_cord_L0; exact (xg_name 5 sc_law_cord.nd))
  (by delta g_law_cord_L0; exact (xss_cons (xs_set 6 sc_law_cord.nd (xe_mod (xe_fdiv (xe_var 5) xe_int) (xe_add (xe_len (by rfl) (by exact B.len) (xa_cons (xe_var 4) xa_nil)) xe_int)))
  (xss_cons (xs_if (xt_eq hr.units (xe_mod (xe_var 5) xe_int) xe_int)
  (xss_one (xs_set 4 sc_law_cord.nd (xe_add (xe_var 4) (xe_own D_law_contrary (hr.mono (by decide)) (by rfl) (xa_cons (xe_cut (xe_var 4) (xo_some (xe_var 6)) xo_none) xa_nil)))))
  (xss_one (xs_if (xt_eq hr.units (xe_mod (xe_var 5) xe_int) xe_int)
  (xss_cons (xs_set 7 sc_law_cord.nd (xe_own D_law_pieces (hr.mono (by decide)) (by rfl) (xa_cons (xe_fdiv (xe_var 5) xe_int) xa_nil)))
  (xss_cons (xs_set 7 sc_law_cord.nd (xe_add (xe_var 7) (xe_own D_law_contrary (hr.mono (by decide)) (by rfl) (xa_cons (xe_var 7) xa_nil))))
  (xss_one (xs_set 4 sc_law_cord.nd (xe_add (xe_add (xe_cut (xe_var 4) xo_none (xo_some (xe_var 6))) (xe_var 7)) (xe_cut (xe_var 4) (xo_some (xe_var 6)) xo_none))))))
  (xss_one (xs_set 4 sc_law_cord.nd (xe_add (xe_var 4) (xe_own D_law_pieces (hr.mono (by decide)) (by rfl) (xa_cons (xe_var 5) xa_nil))))))))
  (xss_one (xs_set 4 sc_law_cord.nd (xe_cut (xe_var 4) xo_none (xo_some (xe_var 3)))))))))
  (xss_one (xs_ret (xe_var 4)))))
noncomputable abbrev s_law_runs : Stmt := top 21
theorem sc_law_runs : FnScope ["_law_cord_here", "_law_runs_here", "_law_nail", "_law_turns"] ["_law_cord_here"] (defScope s_law_runs) := ⟨rfl, rfl, rfl, by decide +kernel, rfl, by decide +kernel, by decide +kernel⟩
theorem ok_law_runs (D : Def K mg "_law_runs" s_law_runs ["_law_cord_here"]) (B : Bn mg)  : Own P w K mg base 1 "_law_runs" ["_law_cord_here"] (spP K fn_law_runs) := by
  delta fn_law_runs
  refine ownP (g := g_law_runs) D sc_law_runs rfl rfl (by decide) fun f cdv A outer s H E hr => ?_
  delta g_law_runs
  exact (xss_cons (xs_set 1 sc_law_runs.nd (xe_lst xd_nil))
  (xss_cons (xs_for PassesOwn.never (by rfl) (xi_rev (by rfl) (by exact B.reversed) (xe_var 0)) (by delta t_law_runs_L0; exact (xg_tup (by rfl) (xgs_cons (xg_name 2 sc_law_runs.nd) (xgs_cons (xg_name 3 sc_law_runs.nd) xgs_nil))))
  (by delta g_law_runs_L0; exact (xss_cons (xs_if (xt_w (xw_and (xt_ne hr.units (xe_var 1) (xe_lst xd_nil)) (xw_and1 (xt_eq hr.units (xe_ix (xe_ix (xe_var 1) (xe_neg xe_int)) xe_int) (xe_var 2)))))
  (xss_one (xs_set 3 sc_law_runs.nd (xe_add (xe_var 3) (xe_ix (xe_pop 1) xe_int))))
  xss_nil)
  (xss_one (xs_if (xt_ne hr.units (xe_var 3) xe_int)
  (xss_one (xs_expr (xe_append 1 (xe_tup (xd_cons (xe_var 2) (xd_cons (xe_var 3) xd_nil))))))
  xss_nil)))))
  (xss_one (xs_ret (xe_comp0 (N := ["_law_run"]) (js := [none]) compClosed (by rfl) (xi_rev (by rfl) (by exact B.reversed) (xe_var 1)) (fun _ _ _ _ => (by delta t_law_runs_C1; exact (xg_name 0 (show (["_law_run"] : List Str).Nodup by decide +kernel)))) (fun _ _ _ _ => (by delta e_law_runs_C1; exact (xe_var 0))))))))
noncomputable abbrev s_law_tame : Stmt := top 22
theorem sc_law_tame : FnScope ["_law_cord_here", "_law_found", "_law_nail", "_law_turns"] ["_law_cord_here"] (defScope s_law_tame) := ⟨rfl, rfl, rfl, by decide +kernel, rfl, by decide +kernel, by decide +kernel⟩
theorem ok_law_tame (D : Def K mg "_law_tame" s_law_tame ["_law_cord_here"]) (B : Bn mg)  : Own P w K mg base 1 "_law_tame" ["_law_cord_here"] (spP K fn_law_tame) := by
  delta fn_law_tame
  refine ownP (g := g_law_tame) D sc_law_tame rfl rfl (by decide) fun f cdv A outer s H E hr => ?_
  delta g_law_tame
  exact (xss_cons (xs_if (xt_ltU hr.units2 (xe_len (by rfl) (by exact B.len) (xa_cons (xe_var 0) xa_nil)) xe_int)
  (xss_one (xs_ret (xe_var 0)))
  xss_nil)
  (xss_cons (xs_set 1 sc_law_tame.nd (xe_lst xd_nil))
  (xss_cons (xs_for PassesOwn.never (by rfl) (xi_any (xe_var 0)) (by delta t_law_tame_L0; exact (xg_tup (by rfl) (xgs_cons (xg_name 2 sc_law_tame.nd) (xgs_cons (xg_name 3 sc_law_tame.nd) xgs_nil))))
  (by delta g_law_tame_L0; exact (xss_one (xs_if (xt_ltU hr.units2 (xe_var 3) xe_int)
  (xss_one (xs_expr (xe_append 1 (xe_tup (xd_cons (xe_var 2) (xd_cons (xe_sub xe_int (xe_mod (xe_sub xe_int (xe_var 3)) xe_int)) xd_nil))))))
  (xss_one (xs_expr (xe_append 1 (xe_tup (xd_cons (xe_var 2) (xd_cons (xe_mod (xe_var 3) xe_int) xd_nil))))))))))
  (xss_one (xs_ret (xe_var 1))))))
noncomputable abbrev s_law_picks : Stmt := top 23
theorem sc_law_picks : FnScope ["_law_row", "_law_cord_here", "_law_sums", "_law_nail", "_law_turns", "_law_end"] ["_law_row", "_law_cord_here"] (defScope s_law_picks) := ⟨rfl, rfl, rfl, by decide +kernel, rfl, by decide +kernel, by decide +kernel⟩
theorem ok_law_picks (D : Def K mg "_law_picks" s_law_picks ["_law_row", "_law_cord_here"]) (B : Bn mg)  : Own P w K mg base 1 "_law_picks" ["_law_row", "_law_cord_here"] (spP K fn_law_picks) := by
  delta fn_law_picks
  refine ownP (g := g_law_picks) D sc_law_picks rfl rfl (by decide) fun f cdv A outer s H E hr => ?_
  delta g_law_picks
  exact (xss_cons (xs_set 2 sc_law_picks.nd (xe_add (xe_lst (xd_cons xe_int xd_nil)) (xe_mul (xe_lst (xd_cons xe_int xd_nil)) (xe_len (by rfl) (by exact B.len) (xa_cons (xe_var 0) xa_nil)))))
  (xss_cons (xs_for PassesOwn.never (by rfl) (xi_any (xe_var 1)) (by delta t_law_picks_L0; exact (xg_tup (by rfl) (xgs_cons (xg_name 3 sc_law_picks.nd) (xgs_cons (xg_name 4 sc_law_picks.nd) xgs_nil))))
  (by delta g_law_picks_L0; exact (xss_one (xs_for PassesOwn.never (by rfl) (xi_range3 (by rfl) (by exact B.range) (xa_cons (xe_len (by rfl) (by exact B.len) (xa_cons (xe_var 0) xa_nil)) (xa_cons xe_int (xa_cons (xe_neg xe_int) xa_nil)))) (by delta t_law_picks_L1; exact (xg_name 5 sc_law_picks.nd))
  (by delta g_law_picks_L1; exact (xss_one (xs_if (xt_eq hr.units (xe_ix (xe_var 0) (xe_sub (xe_var 5) xe_int)) (xe_var 3))
  (xss_one (xs_setix 2 (xe_add (xe_ix (xe_var 2) (xe_var 5)) (xe_mul (xe_ix (xe_var 2) (xe_sub (xe_var 5) xe_int)) (xe_var 4))) (xe_var 5)))
  xss_nil)))))))
  (xss_one (xs_ret (xe_ix (xe_var 2) (xe_len (by rfl) (by exact B.len) (xa_cons (xe_var 0) xa_nil)))))))
noncomputable abbrev s_law_second : Stmt := top 24
theorem sc_law_second : FnScope ["_law_cord_here", "_law_script", "_law_half", "_law_cell", "_law_at_here", "_law_piece"] ["_law_cord_here", "_law_script", "_law_half"] (defScope s_law_second) := ⟨rfl, rfl, rfl, by decide +kernel, rfl, by decide +kernel, by decide +kernel⟩
theorem ok_law_second (D : Def K mg "_law_second" s_law_second ["_law_cord_here", "_law_script", "_law_half"]) (B : Bn mg) (D_law_at : Own P w K mg base 1 "_law_at" ["_law_script", "_law_k"] (spP K fn_law_at)) (D_law_cord : Own P w K mg base 3 "_law_cord" ["_law_script", "_law_first", "_law_last", "_law_most"] (spP K fn_law_cord)) : Own P w K mg base 4 "_law_second" ["_law_cord_here", "_law_script", "_law_half"] (spP K fn_law_second) := by
  delta fn_law_second
  refine ownP (g := g_law_second) D sc_law_second rfl rfl (by decide) fun f cdv A outer s H E hr => ?_
  delta g_law_second
  exact (xss_cons (xs_set 3 sc_law_second.nd (xe_own D_law_at (hr.mono (by decide)) (by rfl) (xa_cons (xe_var 1) (xa_cons (xe_var 2) xa_nil))))
  (xss_cons (xs_set 4 sc_law_second.nd (xe_mod (xe_fdiv (xe_var 3) xe_int) (xe_add (xe_len (by rfl) (by exact B.len) (xa_cons (xe_var 0) xa_nil)) xe_int)))
  (xss_cons (xs_set 5 sc_law_second.nd (xe_tup (xd_cons (xe_ix xe_str (xe_mod (xe_fdiv (xe_var 3) xe_int) xe_int)) (xd_cons (xe_sub (xe_mod (xe_fdiv (xe_var 3) xe_int) xe_int) xe_int) xd_nil))))
  (xss_cons (xs_if (xt_eq hr.units (xe_mod (xe_var 3) xe_int) xe_int)
  (xss_one (xs_ret (xe_own D_law_cord (hr.mono (by decide)) (by rfl) (xa_cons (xe_var 1) (xa_cons (xe_var 2) (xa_cons xe_int (xa_cons xe_int xa_nil)))))))
  xss_nil)
  (xss_cons (xs_if (xt_eq hr.units (xe_mod (xe_var 3) xe_int) xe_int)
  (xss_one (xs_ret (xe_add (xe_add (xe_cut (xe_var 0) xo_none (xo_some (xe_var 4))) (xe_lst (xd_cons (xe_var 5) xd_nil))) (xe_cut (xe_var 0) (xo_some (xe_var 4)) xo_none))))
  xss_nil)
  (xss_cons (xs_if (xt_eq hr.units (xe_mod (xe_var 3) xe_int) xe_int)
  (xss_one (xs_ret (xe_add (xe_add (xe_cut (xe_var 0) xo_none (xo_some (xe_var 4))) (xe_lst (xd_cons (xe_var 5) xd_nil))) (xe_cut (xe_var 0) (xo_some (xe_add (xe_var 4) xe_int)) xo_none))))
  xss_nil)
  (xss_cons (xs_if (xt_eq hr.units (xe_mod (xe_var 3) xe_int) xe_int)
  (xss_one (xs_ret (xe_add (xe_cut (xe_var 0) xo_none (xo_some (xe_var 4))) (xe_cut (xe_var 0) (xo_some (xe_add (xe_var 4) xe_int)) xo_none))))
  xss_nil)
  (xss_one (xs_ret (xe_add (xe_add (xe_cut (xe_var 0) xo_none (xo_some (xe_var 4))) (xe_lst (xd_cons (xe_var 5) (xd_cons (xe_tup (xd_cons (xe_ix (xe_var 5) xe_int) (xd_cons (xe_sub xe_int (xe_ix (xe_var 5) xe_int)) xd_nil))) xd_nil)))) (xe_cut (xe_var 0) (xo_some (xe_var 4)) xo_none)))))))))))
noncomputable abbrev s_law_due : Stmt := top 25
theorem sc_law_due : FnScope ["_law_one", "_law_other", "_law_between", "_law_row", "_law_size", "_law_end"] ["_law_one", "_law_other"] (defScope s_law_due) := ⟨rfl, rfl, rfl, by decide +kernel, rfl, by decide +kernel, by decide +kernel⟩
theorem ok_law_due (D : Def K mg "_law_due" s_law_due ["_law_one", "_law_other"]) (B : Bn mg) (D_law_contrary : Own P w K mg base 1 "_law_contrary" ["_law_cord_here"] (spP K fn_law_contrary)) (D_law_runs : Own P w K mg base 1 "_law_runs" ["_law_cord_here"] (spP K fn_law_runs)) (D_law_picks : Own P w K mg base 1 "_law_picks" ["_law_row", "_law_cord_here"] (spP K fn_law_picks)) : Own P w K mg base 2 "_law_due" ["_law_one", "_law_other"] (spP K fn_law_due) := by
  delta fn_law_due
  refine ownP (g := g_law_due) D sc_law_due rfl rfl (by decide) fun f cdv A outer s H E hr => ?_
  delta g_law_due
  exact (xss_cons (xs_set 2 sc_law_due.nd (xe_own D_law_runs (hr.mono (by decide)) (by rfl) (xa_cons (xe_add (xe_own D_law_contrary (hr.mono (by decide)) (by rfl) (xa_cons (xe_var 0) xa_nil)) (xe_var 1)) xa_nil)))
  (xss_cons (xs_set 3 sc_law_due.nd (xe_join (xe_comp0 (N := ["_law_nail", "_law_turns"]) (js := [none, none]) compClosed (by rfl) (xi_any (xe_var 2)) (fun _ _ _ _ => (by delta t_law_due_C0; exact (xg_tup (by rfl) (xgs_cons (xg_name 0 (show (["_law_nail", "_law_turns"] : List Str).Nodup by decide +kernel)) (xgs_cons (xg_name 1 (show (["_law_nail", "_law_turns"] : List Str).Nodup by decide +kernel)) xgs_nil))))) (fun _ _ _ _ => (by delta e_law_due_C0; exact (xe_var 0))))))
  (xss_cons (xs_for PassesOwn.never (by rfl) (xi_range2 (by rfl) (by exact B.range) (xa_cons xe_int (xa_cons (xe_add (xe_len (by rfl) (by exact B.len) (xa_cons (xe_var 3) xa_nil)) xe_int) xa_nil))) (by delta t_law_due_L1; exact (xg_name 4 sc_law_due.nd))
  (by delta g_law_due_L1; exact (xss_cons (xs_set 5 sc_law_due.nd (xe_cut (xe_var 3) (xo_some (xe_sub (xe_len (by rfl) (by exact B.len) (xa_cons (xe_var 3) xa_nil)) (xe_var 4))) xo_none))
  (xss_one (xs_if (xt_ne hr.units (xe_own D_law_picks (hr.mono (by decide)) (by rfl) (xa_cons (xe_var 5) (xa_cons (xe_var 2) xa_nil))) xe_int)
  (xss_one (xs_ret (xe_norm (xe_tupM (xm_cons (xe_var 5) (xm_cons (xe_own D_law_picks (hr.mono (by decide)) (by rfl) (xa_cons (xe_var 5) (xa_cons (xe_var 0) xa_nil))) (xm_cons (xe_own D_law_picks (hr.mono (by decide)) (by rfl) (xa_cons (xe_var 5) (xa_cons (xe_var 1) xa_nil))) xm_nil)))))))
  xss_nil)))))
  (xss_one (xs_ret xe_non)))))
noncomputable abbrev s_law : Stmt := top 26
theorem sc_law : FnScope ["_law_script", "_law_half", "_law_one", "_law_other", "_law_kept", "_law_found", "_law_due_here", "_law_number"] ["_law_script"] (defScope s_law) := ⟨rfl, rfl, rfl, by decide +kernel, rfl, by decide +kernel, by decide +kernel⟩
theorem ok_law {f0 : Addr} {fd : FuncData} (D : Fun K "law" "law" s_law f0 fd) (B : Bn mg) (D_law_cord : Own P w K mg base 3 "_law_cord" ["_law_script", "_law_first", "_law_last", "_law_most"] (spP K fn_law_cord)) (D_law_second : Own P w K mg base 4 "_law_second" ["_law_cord_here", "_law_script", "_law_half"] (spP K fn_law_second)) (D_law_tame : Own P w K mg base 1 "_law_tame" ["_law_cord_here"] (spP K fn_law_tame)) (D_told_apart : Own P w K mg base 3 "told_apart" ["one", "other"] (spP K fn_told_apart)) (D_law_due : Own P w K mg base 2 "_law_due" ["_law_one", "_law_other"] (spP K fn_law_due)) : FnOk P w K mg base CX0 5 f0 fd ["_law_script"] (spP K fn_law) := by
  delta fn_law
  refine fnP (g := g_law) D sc_law rfl rfl (by decide) fun cdv A outer s H E hr => ?_
  delta g_law
  exact (xss_cons (xs_set 1 sc_law.nd (xe_fdiv (xe_min (by rfl) (by rfl) (by exact B.min) (xa_cons (xe_len (by rfl) (by exact B.len) (xa_cons (xe_var 0) xa_nil)) (xa_cons xe_int xa_nil))) xe_int))
  (xss_cons (xs_set 2 sc_law.nd (xe_own D_law_cord (hr.mono (by decide)) (by rfl) (xa_cons (xe_var 0) (xa_cons xe_int (xa_cons (xe_var 1) (xa_cons xe_int xa_nil))))))
  (xss_cons (xs_set 3 sc_law.nd (xe_own D_law_tame (hr.mono (by decide)) (by rfl) (xa_cons (xe_own D_law_second (hr.mono (by decide)) (by rfl) (xa_cons (xe_var 2) (xa_cons (xe_var 0) (xa_cons (xe_var 1) xa_nil)))) xa_nil)))
  (xss_cons (xs_set 2 sc_law.nd (xe_own D_law_tame (hr.mono (by decide)) (by rfl) (xa_cons (xe_var 2) xa_nil)))
  (xss_cons (xs_set 4 sc_law.nd (xe_lst (xd_cons (xe_list (by rfl) (by exact B.list) (xe_var 2)) (xd_cons (xe_list (by rfl) (by exact B.list) (xe_var 3)) xd_nil))))
  (xss_cons (xs_set 5 sc_law.nd (xe_own D_told_apart (hr.mono (by decide)) (by rfl) (xa_cons (xe_ix (xe_var 4) xe_int) (xa_cons (xe_ix (xe_var 4) xe_int) xa_nil))))
  (xss_cons (xs_set 6 sc_law.nd (xe_own D_law_due (hr.mono (by decide)) (by rfl) (xa_cons (xe_var 2) (xa_cons (xe_var 3) xa_nil))))
  (xss_cons (xs_if (xt_w (xw_or (xt_ne hr.units (xe_var 4) (xe_lst (xd_cons (xe_var 2) (xd_cons (xe_var 3) xd_nil)))) (xw_or1 (xt_ne hr.units (xe_isN (xe_var 5) xe_non) (xe_isN (xe_var 6) xe_non)))))
  (xss_one (xs_ret xe_bl))
  xss_nil)
  (xss_cons (xs_if (xt_w (xw_or (xt_notN (xe_own D_told_apart (hr.mono (by decide)) (by rfl) (xa_cons (xe_var 2) (xa_cons (xe_list (by rfl) (by exact B.list) (xe_var 2)) xa_nil))) xe_non) (xw_or1 (xt_notN (xe_own D_told_apart (hr.mono (by decide)) (by rfl) (xa_cons (xe_lst xd_nil) (xa_cons (xe_lst xd_nil) xa_nil))) xe_non))))
  (xss_one (xs_ret xe_bl))
  xss_nil)
  (xss_cons (xs_if (xt_isN (xe_var 6) xe_non)
  (xss_one (xs_ret xe_bl))
  xss_nil)
  (xss_cons (xs_if (xt_w (xw_or (xt_not (xt_tru (xe_isi .tuple (by rfl) (by exact B.isinstance) (xe_var 5) (by rfl) (by exact B.tuple) PyProof.Rows.boot_tuple))) (xw_or (xt_ne hr.units (xe_len (by rfl) (by exact B.len) (xa_cons (xe_var 5) xa_nil)) xe_int) (xw_or1 (xt_not (xt_tru (xe_isi .str (by rfl) (by exact B.isinstance) (xe_ix (xe_var 5) xe_int) (by rfl) (by exact B.str) PyProof.Rows.boot_str)))))))
  (xss_one (xs_ret xe_bl))
  xss_nil)
  (xss_cons (xs_for PassesOwn.never (by rfl) (xi_any (xe_cutT (xe_var 5) (xo_some xe_int) xo_none)) (by delta t_law_L0; exact (xg_name 7 sc_law.nd))
  (by delta g_law_L0; exact (xss_one (xs_if (xt_w (xw_or (xt_not (xt_tru (xe_isi .int (by rfl) (by exact B.isinstance) (xe_var 7) (by rfl) (by exact B.int) PyProof.Rows.boot_int))) (xw_or1 (xt_tru (xe_isi .bool (by rfl) (by exact B.isinstance) (xe_var 7) (by rfl) (by exact B.bool) PyProof.Rows.boot_bool)))))
  (xss_one (xs_ret xe_bl))
  xss_nil))))
  (xss_one (xs_ret (xe_and (xe_eq hr.units (xe_var 5) (xe_var 6)) (xe_one (xe_ne hr.units (xe_ix (xe_var 5) xe_int) (xe_ix (xe_var 5) xe_int))))))))))))))))))
end
end Nhk15
namespace Nhk15
open PySem L2 Nh PL
theorem pv_law_at (ns : List Int) (k : Nat) : fn_law_at [.list (ns.map .int), .int k] = some (.sh (.int (ns.getD k 0))) := by
  simp only [fn_law_at, fnB, List.length_cons, List.length_nil, Nat.zero_add, Nat.reduceAdd, runB, g_law_at, pSeq, pIfS, isB, pBin, pVar, startE, List.map_cons, List.map_nil, Nat.sub_self, List.replicate, List.cons_append, List.nil_append, List.getElem?_cons_succ, List.getElem?_cons_zero, Sl.isBr, Bool.false_and, Bool.false_eq_true, pCaS, aCons, aNil, Option.map_some, if_false, dLen, sc2, look, Sl.val, dLt, Option.bind_some, lookA, pRet, pIx, hot, hot1, pNext, pC, outS, Clean, if_true]
  by_cases h : k < ns.length
  · simp [h, atI_nat', flat]
  · simp [h, List.getElem?_eq_none (Nat.le_of_not_lt h), flat]
theorem pv_law_mix (cell : Int) (k : Nat) (h : k ≤ 1000000) : ∃ z : Int, fn_law_mix [.int cell, .int k] = some (.sh (.int z)) := by
  have a1 : ∀ i : Int, okMul i (62089911 + 2 * (k : Int)) = true := fun i => okMul_r (by omega) (by omega)
  have a2 : okMul 982451653 (k : Int) = true := okMul_r (by omega) (by omega)
  have a3 : okMul 2 (k : Int) = true := okMul_r (by omega) (by omega)
  have a4 : ∀ i j : Int, okMul (i % 4294967291) j = true := fun i j => okMul_l (by have := Int.emod_nonneg i (show (4294967291 : Int) ≠ 0 by decide); omega) (by have := Int.emod_lt_of_pos i (show (0 : Int) < 4294967291 by decide); omega)
  have d1 : okDiv 1024 = true := by decide
  simp only [fn_law_mix, fnB, List.length_cons, List.length_nil, Nat.zero_add, Nat.reduceAdd, runB, g_law_mix, pSeq, pSet, pBin, pVar, startE, List.map_cons, List.map_nil, Nat.reduceSub, List.replicate, List.cons_append, List.nil_append, List.getElem?_cons_zero, Sl.isBr, Bool.false_and, Bool.false_eq_true, pC, pPow, sc2, look, Sl.val, iOp, Int.reducePow, Int.reduceNeg, Option.bind_some, if_false, Int.reduceLE, Int.reduceLT, and_self, decide_true, Int.reduceToNat, if_true, Option.map_some, pMod, pMul, hot, hot1, Bool.not_false, Bool.true_or, Bool.and_true, pAdd, List.getElem?_cons_succ, a3, a1, a2, PL.settle, frz, frzAll, Nat.reduceLT, List.set_cons_succ, List.set_cons_zero, pRet, pFdiv, d1, a4, outS, Clean, flat]
  exact ⟨_, rfl⟩
theorem pc_law_contrary : ∀ (d : List Pc) (x0 x1 : Sl), cLoop t_law_contrary_C0 tYesP e_law_contrary_C0 (d.map pcD) [x0, x1] = some ((d.map fun p => ((p.1, -p.2) : Pc)).map pcD)
  | [], x0, x1 => rfl
  | p :: d, x0, x1 => by
    have e : (t_law_contrary_C0 (pcD p) [x0, x1]) = some [.sh (.str ⟨#[p.1]⟩), .sh (.int p.2)] := rfl
    have e2 : e_law_contrary_C0 [.sh (.str ⟨#[p.1]⟩), .sh (.int p.2)] = some (.sh (pcD (p.1, -p.2)), [.sh (.str ⟨#[p.1]⟩), .sh (.int p.2)]) := by
      simp only [e_law_contrary_C0, pTup, dCons, pVar, List.getElem?_cons_zero, frz, pBin, pC, Sl.isBr, Bool.false_and, Bool.false_eq_true, pSub, sc2, look, Sl.val, iOp, if_true, if_false, Option.bind_some, dNil, Option.map_some, List.getElem?_cons_succ, Int.zero_sub, List.length_cons, List.length_nil, Nat.zero_add, Nat.reduceAdd, Nat.reduceLeDiff, pcD]
    rw [List.map_cons, cLoop, e, Option.bind_some]
    simp only [tYesP, frz, Option.bind_some, e2, pc_law_contrary d, Option.map_some, if_true, List.map_cons]
theorem pv_law_contrary (c : List Pc) (h : c.length ≤ 1000000) : fn_law_contrary [.list (c.map pcD)] = some (.ow ((NH.contr c).map pcD)) := by
  have hl : (NH.contr c).length = c.length := NH.contr_length c
  have e : (c.reverse.map fun p => ((p.1, -p.2) : Pc)) = NH.contr c := rfl
  have k := pc_law_contrary c.reverse .no .no
  rw [e, List.map_reverse] at k
  simp only [fn_law_contrary, fnB, List.length_cons, List.length_nil, Nat.zero_add, runB, g_law_contrary, pRet, pComp, iRevP, pVar, startE, List.map_cons, List.map_nil, Nat.sub_self, List.replicate, List.cons_append, List.nil_append, List.getElem?_cons_zero, frz, Option.bind_some, slotsE, slotE, k, flatA_pc, List.length_map, hl, h, decide_true, Bool.and_true, if_true, outS, Clean]
theorem pl_law_pieces (cell : Int) (x2 x3 : Sl) : ∀ (n lo : Nat) (rest : Int) (c : List Pc) (a b : Sl), lo + n ≤ 1000 → c.length + n ≤ 1000 → CordOk c →
    ∃ (rest' : Int) (c' : List Pc) (a' b' : Sl), pLoop t_law_pieces_L0 g_law_pieces_L0 (rngD lo n) [.sh (.int cell), .sh (.int rest), x2, x3, .ow (c.map pcD), a, b] = some ([.sh (.int cell), .sh (.int rest'), x2, x3, .ow (c'.map pcD), a', b'], .nx) ∧ c'.length = c.length + n ∧ CordOk c'
  | 0, lo, rest, c, a, b, _, _, hN => ⟨rest, c, a, b, rfl, rfl, hN⟩
  | n + 1, lo, rest, c, a, b, h1, h2, hN => by
    obtain ⟨z, ez⟩ := pv_law_mix cell lo (by omega)
    have dd : okDiv 4 = true ∧ okDiv 28 = true := by decide
    have step : ∃ v : Int, (t_law_pieces_L0 (.int lo) [.sh (.int cell), .sh (.int rest), x2, x3, .ow (c.map pcD), a, b]).bind g_law_pieces_L0 = some ([.sh (.int cell), .sh (.int (rest / 28)), x2, x3, .ow ((c ++ [((l4 (v % 4), v / 4 % 7 - 3) : Pc)]).map pcD), .sh (.int lo), .sh (.int v)], .nx) := by
      have lb : c.length < 1000000 := by omega
      by_cases c1 : (if cell < 0 then -cell else cell) < 1000000000000000000
      · refine ⟨z, ?_⟩
        simp only [t_law_pieces_L0, gNameP, List.length_cons, List.length_nil, Nat.zero_add, Nat.reduceAdd, Nat.reduceLT, List.set_cons_succ, List.set_cons_zero, if_true, g_law_pieces_L0, pPow, Int.reducePow, Int.reduceNeg, pMod, pSub, pFdiv, Option.bind_some, pSeq, pSet, pVar, List.getElem?_cons_succ, List.getElem?_cons_zero, PL.settle, frz, frzAll, pIfS, tOrP, isB, pBin, pCaS, aCons, Sl.isBr, Bool.false_and, Bool.false_eq_true, aNil, Option.map_some, if_false, dAbs, pC, sc2, look, Sl.val, iOp, Int.reduceLE, Int.reduceLT, and_self, decide_true, Int.reduceToNat, dLt, pChain, pUn, dNeg, Bool.or_false, dCmp, Cm.i, Cm.s, pCall, pNext, pExpr, pAppend, pTup, dCons, pIx, hot, hot1, len_abcz, dNil, lookA, c1, ez, abcz_m, dd.1, Nat.reduceLeDiff, List.length_map, lb, dd.2, List.map_append, List.map_cons, pcD, List.map_nil]
      · by_cases c2 : -28 < rest
        · by_cases c3 : rest < 28
          · refine ⟨z, ?_⟩
            simp only [t_law_pieces_L0, gNameP, List.length_cons, List.length_nil, Nat.zero_add, Nat.reduceAdd, Nat.reduceLT, List.set_cons_succ, List.set_cons_zero, if_true, g_law_pieces_L0, pPow, Int.reducePow, Int.reduceNeg, pMod, pSub, pFdiv, Option.bind_some, pSeq, pSet, pVar, List.getElem?_cons_succ, List.getElem?_cons_zero, PL.settle, frz, frzAll, pIfS, tOrP, isB, pBin, pCaS, aCons, Sl.isBr, Bool.false_and, Bool.false_eq_true, aNil, Option.map_some, if_false, dAbs, pC, sc2, look, Sl.val, iOp, Int.reduceLE, Int.reduceLT, and_self, decide_true, Int.reduceToNat, dLt, pChain, pUn, dNeg, Bool.or_false, dCmp, Cm.i, Cm.s, pCall, pNext, pExpr, pAppend, pTup, dCons, pIx, hot, hot1, len_abcz, dNil, lookA, c1, decide_false, c3, c2, ez, abcz_m, dd.1, Nat.reduceLeDiff, List.length_map, lb, dd.2, List.map_append, List.map_cons, pcD, List.map_nil]
          · refine ⟨rest, ?_⟩
            simp only [t_law_pieces_L0, gNameP, List.length_cons, List.length_nil, Nat.zero_add, Nat.reduceAdd, Nat.reduceLT, List.set_cons_succ, List.set_cons_zero, if_true, g_law_pieces_L0, pPow, Int.reducePow, Int.reduceNeg, pMod, pSub, pFdiv, Option.bind_some, pSeq, pSet, pVar, List.getElem?_cons_succ, List.getElem?_cons_zero, PL.settle, frz, frzAll, pIfS, tOrP, isB, pBin, pCaS, aCons, Sl.isBr, Bool.false_and, Bool.false_eq_true, aNil, Option.map_some, if_false, dAbs, pC, sc2, look, Sl.val, iOp, Int.reduceLE, Int.reduceLT, and_self, decide_true, Int.reduceToNat, dLt, pChain, pUn, dNeg, Bool.or_false, dCmp, Cm.i, Cm.s, pCall, pNext, pExpr, pAppend, pTup, dCons, pIx, hot, hot1, len_abcz, dNil, lookA, c1, decide_false, c3, c2, ez, abcz_m, dd.1, Nat.reduceLeDiff, List.length_map, lb, dd.2, List.map_append, List.map_cons, pcD, List.map_nil]
        · refine ⟨rest, ?_⟩
          simp only [t_law_pieces_L0, gNameP, List.length_cons, List.length_nil, Nat.zero_add, Nat.reduceAdd, Nat.reduceLT, List.set_cons_succ, List.set_cons_zero, if_true, g_law_pieces_L0, pPow, Int.reducePow, Int.reduceNeg, pMod, pSub, pFdiv, Option.bind_some, pSeq, pSet, pVar, List.getElem?_cons_succ, List.getElem?_cons_zero, PL.settle, frz, frzAll, pIfS, tOrP, isB, pBin, pCaS, aCons, Sl.isBr, Bool.false_and, Bool.false_eq_true, aNil, Option.map_some, if_false, dAbs, pC, sc2, look, Sl.val, iOp, Int.reduceLE, Int.reduceLT, and_self, decide_true, Int.reduceToNat, dLt, pChain, pUn, dNeg, Bool.or_false, dCmp, Cm.i, Cm.s, pCall, pNext, pExpr, pAppend, pTup, dCons, pIx, hot, hot1, len_abcz, dNil, lookA, c1, decide_false, c2, ez, abcz_m, dd.1, Nat.reduceLeDiff, List.length_map, lb, dd.2, List.map_append, List.map_cons, pcD, List.map_nil]
    obtain ⟨v, e⟩ := step
    obtain ⟨r', c', a', b', e2, l2, n2⟩ := pl_law_pieces cell x2 x3 n (lo + 1) (rest / 28) (c ++ [((l4 (v % 4), v / 4 % 7 - 3) : Pc)]) (.sh (.int lo)) (.sh (.int v)) (by omega) (by simp; omega) (hN.append fun p hp => by rw [List.mem_singleton.mp hp]; exact ⟨l4_ok _, by show (v / 4 % 7 - 3).natAbs < 2 ^ 100; have := Int.emod_nonneg (v / 4) (show (7 : Int) ≠ 0 by decide); have := Int.emod_lt_of_pos (v / 4) (show (0 : Int) < 7 by decide); omega⟩)
    refine ⟨r', c', a', b', ?_, by rw [l2]; simp; omega, n2⟩
    rw [rngD_succ, pLoop, e]
    exact e2
theorem pv_law_pieces (cell : Int) : ∃ c : List Pc, fn_law_pieces [.int cell] = some (.ow (c.map pcD)) ∧ c.length ≤ 12 ∧ CordOk c := by
  have dd : okDiv 5 = true ∧ okDiv 26 = true ∧ okDiv 13 = true := by decide
  have mm : okMul 2 1000000000000000000000000000000 = true := okMul_l (by decide) (by decide)
  by_cases c5 : cell % 5 = 2
  · refine ⟨[((97 + (cell / 5 % 26).toNat, cell / 5 / 26 % (2 * 10 ^ 30 - 1) - (10 ^ 30 - 1)) : Pc)], ?_, by simp, fun p hp => ?_⟩
    · simp only [fn_law_pieces, fnB, List.length_cons, List.length_nil, Nat.zero_add, runB, g_law_pieces, pSeq, pSet, pBin, pVar, startE, List.map_cons, List.map_nil, Nat.reduceSub, List.replicate, List.cons_append, List.nil_append, List.getElem?_cons_zero, Sl.isBr, Bool.false_and, Bool.false_eq_true, pC, pFdiv, sc2, look, Sl.val, iOp, Option.bind_some, if_false, dd.1, if_true, Option.map_some, PL.settle, frz, frzAll, Nat.reduceAdd, Nat.reduceLT, List.set_cons_succ, List.set_cons_zero, pIfS, isB, pMod, pEq, pIx, hot, hot1, len_az, pRet, pLst, dCons, pTup, pPow, Int.reducePow, Int.reduceNeg, Int.reduceLE, Int.reduceLT, and_self, decide_true, Int.reduceToNat, pMul, Bool.not_false, Bool.true_or, Bool.and_true, mm, Int.reduceMul, pSub, Int.reduceSub, dNil, pNext, Nat.reduceLeDiff, pFor, iRng1P, aCons, aNil, c5, dEq_int, List.getElem?_cons_succ, az_m, dd.2.1, outS, Clean, flatA, flat, pcD]
    · rw [List.mem_singleton.mp hp]
      have := Int.emod_lt_of_pos (cell / 5) (show (0 : Int) < 26 by decide)
      have h2 := Int.emod_nonneg (cell / 5 / 26) (show (2 * 10 ^ 30 - 1 : Int) ≠ 0 by decide)
      have h3 := Int.emod_lt_of_pos (cell / 5 / 26) (show (0 : Int) < 2 * 10 ^ 30 - 1 by decide)
      refine ⟨?_, ?_⟩
      · show 97 + (cell / 5 % 26).toNat < 128
        omega
      · show (cell / 5 / 26 % (2 * 10 ^ 30 - 1) - (10 ^ 30 - 1)).natAbs < 2 ^ 100
        generalize cell / 5 / 26 % (2 * 10 ^ 30 - 1) = z at h2 h3
        omega
  · have m0 := Int.emod_nonneg (cell / 5) (show (13 : Int) ≠ 0 by decide)
    have m1 := Int.emod_lt_of_pos (cell / 5) (show (0 : Int) < 13 by decide)
    obtain ⟨r', c', a', b', e, l, n⟩ := pl_law_pieces cell .no (.sh (.int (cell / 5 % 13))) (cell / 5 % 13).toNat 0 (cell / 5 / 13) [] .no .no (by omega) (by simp; omega) cord_nil
    refine ⟨c', ?_, by rw [l]; simp; omega, n⟩
    have hb : -1000000 ≤ cell / 5 % 13 ∧ cell / 5 % 13 ≤ 1000000 := by omega
    simp only [List.map_nil, Int.natCast_zero] at e
    simp only [fn_law_pieces, fnB, List.length_cons, List.length_nil, Nat.zero_add, runB, g_law_pieces, pSeq, pSet, pBin, pVar, startE, List.map_cons, List.map_nil, Nat.reduceSub, List.replicate, List.cons_append, List.nil_append, List.getElem?_cons_zero, Sl.isBr, Bool.false_and, Bool.false_eq_true, pC, pFdiv, sc2, look, Sl.val, iOp, Option.bind_some, if_false, dd.1, if_true, Option.map_some, PL.settle, frz, frzAll, Nat.reduceAdd, Nat.reduceLT, List.set_cons_succ, List.set_cons_zero, pIfS, isB, pMod, pEq, pIx, hot, hot1, pRet, pLst, dCons, pTup, pPow, pMul, Bool.not_false, Bool.true_or, Bool.and_true, pSub, dNil, pNext, Nat.reduceLeDiff, pFor, iRng1P, aCons, aNil, Int.reduceLT, decide_true, dEq_int, c5, decide_false, List.getElem?_cons_succ, dd.2.2, lookA, hb, and_self, e, outS, Clean, flatA_pc]
theorem pl_law_cord (s0 s1 s2 : Sl) (most : Int) (hm0 : 0 ≤ most) (hm : most ≤ 1000) : ∀ (zs : List Int) (c : List Pc) (a b d : Sl), (c.length : Int) ≤ most → CordOk c →
    ∃ (c' : List Pc) (a' b' d' : Sl), pLoop t_law_cord_L0 g_law_cord_L0 (zs.map .int) [s0, s1, s2, .sh (.int most), .ow (c.map pcD), a, b, d] = some ([s0, s1, s2, .sh (.int most), .ow (c'.map pcD), a', b', d'], .nx) ∧ (c'.length : Int) ≤ most ∧ CordOk c'
  | [], c, a, b, d, h, hN => ⟨c, a, b, d, rfl, h, hN⟩
  | z :: zs, c, a, b, d, h, hN => by
    have step : ∃ (c' : List Pc) (a' b' d' : Sl), (t_law_cord_L0 (.int z) [s0, s1, s2, .sh (.int most), .ow (c.map pcD), a, b, d]).bind g_law_cord_L0 = some ([s0, s1, s2, .sh (.int most), .ow (c'.map pcD), a', b', d'], .nx) ∧ (c'.length : Int) ≤ most ∧ CordOk c' := by
      have hp : 0 < (c.length : Int) + 1 := by omega
      have k0 : 0 ≤ z / 5 % ((c.length : Int) + 1) := Int.emod_nonneg _ (by omega)
      have d5 : okDiv 5 = true := by decide
      generalize hk : z / 5 % ((c.length : Int) + 1) = k at k0
      have l1 := cutL_len c (some k) none
      have l2 := cutL_len c none (some k)
      by_cases c3 : z % 5 = 3
      · have e1 := pv_law_contrary (cutL c (some k) none) (by omega)
        have lb : c.length + (NH.contr (cutL c (some k) none)).length ≤ 1000000 := by rw [NH.contr_length]; omega
        obtain ⟨a1, b1, d1, e⟩ : ∃ a1 b1 d1, (t_law_cord_L0 (.int z) [s0, s1, s2, .sh (.int most), .ow (c.map pcD), a, b, d]).bind g_law_cord_L0 = some ([s0, s1, s2, .sh (.int most), .ow ((cutL (c ++ NH.contr (cutL c (some k) none)) none (some most)).map pcD), a1, b1, d1], .nx) := by
          simp only [t_law_cord_L0, gNameP, List.length_cons, List.length_nil, Nat.zero_add, Nat.reduceAdd, Nat.reduceLT, List.set_cons_succ, List.set_cons_zero, if_true, g_law_cord_L0, pMod, pFdiv, pEq, Option.bind_some, pSeq, pSet, pBin, pVar, List.getElem?_cons_succ, List.getElem?_cons_zero, Sl.isBr, Bool.false_and, Bool.false_eq_true, pC, sc2, look, Sl.val, iOp, if_false, d5, Option.map_some, pCaS, aCons, aNil, dLen, pAdd, hot, hot1, Bool.not_false, Bool.true_or, Bool.and_true, lookA, List.length_map, hp, decide_true, hk, PL.settle, frz, frzAll, pIfS, isB, pCall, pCut, oSome, oNone, Int.reduceLT, c3, dEq_int, Option.any_some, cutD_map, flatA_pc, Bool.or_true, e1, lb, ← List.map_append]
          exact ⟨_, _, _, rfl⟩
        exact ⟨_, a1, b1, d1, e, cutL_most _ hm0, (hN.append (hN.cutL _ _).contr).cutL _ _⟩
      · by_cases c4 : z % 5 = 4
        · obtain ⟨p, ep, lp, np⟩ := pv_law_pieces (z / 5)
          have e1 := pv_law_contrary p (by omega)
          have lb : p.length + (NH.contr p).length ≤ 1000000 := by rw [NH.contr_length]; omega
          have lb2 : (cutL c none (some k)).length + (p ++ NH.contr p).length ≤ 1000000 := by rw [List.length_append, NH.contr_length]; omega
          have lb3 : (cutL c none (some k) ++ (p ++ NH.contr p)).length + (cutL c (some k) none).length ≤ 1000000 := by rw [List.length_append, List.length_append, NH.contr_length]; omega
          obtain ⟨a1, b1, d1, e⟩ : ∃ a1 b1 d1, (t_law_cord_L0 (.int z) [s0, s1, s2, .sh (.int most), .ow (c.map pcD), a, b, d]).bind g_law_cord_L0 = some ([s0, s1, s2, .sh (.int most), .ow ((cutL (cutL c none (some k) ++ (p ++ NH.contr p) ++ cutL c (some k) none) none (some most)).map pcD), a1, b1, d1], .nx) := by
            simp only [t_law_cord_L0, gNameP, List.length_cons, List.length_nil, Nat.zero_add, Nat.reduceAdd, Nat.reduceLT, List.set_cons_succ, List.set_cons_zero, if_true, g_law_cord_L0, pMod, pFdiv, pEq, Option.bind_some, pSeq, pSet, pBin, pVar, List.getElem?_cons_succ, List.getElem?_cons_zero, Sl.isBr, Bool.false_and, Bool.false_eq_true, pC, sc2, look, Sl.val, iOp, if_false, d5, Option.map_some, pCaS, aCons, aNil, dLen, pAdd, hot, hot1, Bool.not_false, Bool.true_or, Bool.and_true, lookA, List.length_map, hp, decide_true, hk, PL.settle, frz, frzAll, pIfS, isB, pCall, pCut, oSome, oNone, Int.reduceLT, c4, dEq_int, Int.reduceEq, decide_false, Option.any_some, cutD_map, flatA_pc, Bool.or_true, ep, e1, lb, ← List.map_append, lb2, lb3]
            exact ⟨_, _, _, rfl⟩
          exact ⟨_, a1, b1, d1, e, cutL_most _ hm0, (((hN.cutL _ _).append (np.append np.contr)).append (hN.cutL _ _)).cutL _ _⟩
        · obtain ⟨p, ep, lp, np⟩ := pv_law_pieces z
          have lb : c.length + p.length ≤ 1000000 := by omega
          obtain ⟨a1, b1, d1, e⟩ : ∃ a1 b1 d1, (t_law_cord_L0 (.int z) [s0, s1, s2, .sh (.int most), .ow (c.map pcD), a, b, d]).bind g_law_cord_L0 = some ([s0, s1, s2, .sh (.int most), .ow ((cutL (c ++ p) none (some most)).map pcD), a1, b1, d1], .nx) := by
            simp only [t_law_cord_L0, gNameP, List.length_cons, List.length_nil, Nat.zero_add, Nat.reduceAdd, Nat.reduceLT, List.set_cons_succ, List.set_cons_zero, if_true, g_law_cord_L0, pMod, pFdiv, pEq, Option.bind_some, pSeq, pSet, pBin, pVar, List.getElem?_cons_succ, List.getElem?_cons_zero, Sl.isBr, Bool.false_and, Bool.false_eq_true, pC, sc2, look, Sl.val, iOp, if_false, d5, Option.map_some, pCaS, aCons, aNil, dLen, pAdd, hot, hot1, Bool.not_false, Bool.true_or, Bool.and_true, lookA, List.length_map, hp, decide_true, hk, PL.settle, frz, frzAll, pIfS, isB, pCall, pCut, oSome, oNone, Int.reduceLT, dEq_int, c3, decide_false, Option.any_some, cutD_map, flatA_pc, Bool.or_true, c4, ep, lb, ← List.map_append]
            exact ⟨_, _, _, rfl⟩
          exact ⟨_, a1, b1, d1, e, cutL_most _ hm0, (hN.append np).cutL _ _⟩
    obtain ⟨c1, a1, b1, d1, e, l1, n1⟩ := step
    obtain ⟨c', a', b', d', e2, l2, n2⟩ := pl_law_cord s0 s1 s2 most hm0 hm zs c1 a1 b1 d1 l1 n1
    refine ⟨c', a', b', d', ?_, l2, n2⟩
    rw [List.map_cons, pLoop, e]
    exact e2
theorem pv_law_cord (ns : List Int) (first last most : Int) (h0 : 0 ≤ first) (hm0 : 0 ≤ most) (hm : most ≤ 1000) (hl : ns.length ≤ 63) : ∃ c : List Pc, fn_law_cord [.list (ns.map .int), .int first, .int last, .int most] = some (.ow (c.map pcD)) ∧ (c.length : Int) ≤ most ∧ CordOk c := by
  obtain ⟨k, rfl⟩ : ∃ k : Nat, first = k := ⟨first.toNat, by omega⟩
  have e0 := pv_law_at ns k
  obtain ⟨c, a, b, d, e, l, n⟩ := pl_law_cord (.sh (.list (ns.map .int))) (.sh (.int k)) (.sh (.int last)) most hm0 hm (ns.getD k 0 :: cutL ns (some ((k : Int) + 1)) (some last)) [] .no .no .no (by simpa using hm0) cord_nil
  have lb := cutL_len ns (some ((k : Int) + 1)) (some last)
  have lb2 : 1 + (cutL ns (some ((k : Int) + 1)) (some last)).length ≤ 1000000 := by omega
  simp only [List.map_nil, List.map_cons] at e
  refine ⟨c, ?_, l, n⟩
  simp only [fn_law_cord, fnB, List.length_cons, List.length_nil, Nat.zero_add, Nat.reduceAdd, runB, g_law_cord, pSeq, pSet, pLst, dNil, startE, List.map_cons, List.map_nil, Nat.reduceSub, List.replicate, List.cons_append, List.nil_append, Option.bind_some, Nat.reduceLeDiff, if_true, PL.settle, frz, frzAll, Nat.reduceLT, List.set_cons_succ, List.set_cons_zero, pFor, iAny, pBin, dCons, pCall, aCons, pVar, Sl.isBr, Bool.false_and, Bool.false_eq_true, aNil, Option.map_some, if_false, pCut, oSome, pC, pAdd, look, Sl.val, hot, hot1, Bool.not_false, Bool.true_or, Bool.and_true, pRet, List.getElem?_cons_zero, List.getElem?_cons_succ, lookA, e0, cutD_map, flatA_int, Bool.or_true, List.length_map, lb2, decide_true, e, outS, Clean, flatA_pc]
theorem pl_law_tame (x0 : Sl) : ∀ (c acc : List Pc) (a b : Sl), acc.length + c.length ≤ 1000 → CordOk acc → CordOk c → ∃ (acc' : List Pc) (a' b' : Sl), pLoop t_law_tame_L0 g_law_tame_L0 (c.map pcD) [x0, .ow (acc.map pcD), a, b] = some ([x0, .ow (acc'.map pcD), a', b'], .nx) ∧ acc'.length = acc.length + c.length ∧ CordOk acc'
  | [], acc, a, b, _, h, _ => ⟨acc, a, b, rfl, rfl, h⟩
  | p :: c, acc, a, b, hl, h, hc => by
    have lb : acc.length < 1000000 := by simp at hl; omega
    have d3 : okDiv 1000 = true := by decide
    have hp := hc p (List.mem_cons_self ..)
    have step : ∃ (t : Int), t.natAbs < 2 ^ 100 ∧ (t_law_tame_L0 (pcD p) [x0, .ow (acc.map pcD), a, b]).bind g_law_tame_L0 = some ([x0, .ow ((acc ++ [((p.1, t) : Pc)]).map pcD), .sh (.str ⟨#[p.1]⟩), .sh (.int p.2)], .nx) := by
      by_cases n : p.2 < 0
      · refine ⟨0 - (0 - p.2) % 1000, ?_, ?_⟩
        · have h1 := Int.emod_nonneg (0 - p.2) (show (1000 : Int) ≠ 0 by decide)
          have h2 := Int.emod_lt_of_pos (0 - p.2) (show (0 : Int) < 1000 by decide)
          generalize (0 - p.2) % 1000 = z at h1 h2
          omega
        · simp only [t_law_tame_L0, gTupP, pcD, List.length_cons, List.length_nil, Nat.zero_add, Nat.reduceAdd, gConsP, gNameP, Nat.reduceLT, List.set_cons_succ, List.set_cons_zero, if_true, Option.bind_some, gNilP, List.isEmpty_nil, g_law_tame_L0, pSub, pMod, pIfS, isB, pBin, pVar, List.getElem?_cons_succ, List.getElem?_cons_zero, Sl.isBr, Bool.false_and, Bool.false_eq_true, pC, sc2, look, Sl.val, dLt, if_false, n, decide_true, Option.map_some, pExpr, pAppend, pTup, dCons, frz, iOp, dNil, Int.reduceLT, Nat.reduceLeDiff, List.length_map, lb, List.map_append, List.map_cons, List.map_nil]
      · refine ⟨p.2 % 1000, ?_, ?_⟩
        · have h1 := Int.emod_nonneg p.2 (show (1000 : Int) ≠ 0 by decide)
          have h2 := Int.emod_lt_of_pos p.2 (show (0 : Int) < 1000 by decide)
          generalize p.2 % 1000 = z at h1 h2
          omega
        · simp only [t_law_tame_L0, gTupP, pcD, List.length_cons, List.length_nil, Nat.zero_add, Nat.reduceAdd, gConsP, gNameP, Nat.reduceLT, List.set_cons_succ, List.set_cons_zero, if_true, Option.bind_some, gNilP, List.isEmpty_nil, g_law_tame_L0, pSub, pMod, pIfS, isB, pBin, pVar, List.getElem?_cons_succ, List.getElem?_cons_zero, Sl.isBr, Bool.false_and, Bool.false_eq_true, pC, sc2, look, Sl.val, dLt, if_false, n, decide_false, Option.map_some, pExpr, pAppend, pTup, dCons, frz, iOp, dNil, Int.reduceLT, decide_true, Nat.reduceLeDiff, List.length_map, lb, List.map_append, List.map_cons, List.map_nil]
    obtain ⟨t, ht, e⟩ := step
    obtain ⟨acc', a', b', e2, l2, k2⟩ := pl_law_tame x0 c (acc ++ [((p.1, t) : Pc)]) (.sh (.str ⟨#[p.1]⟩)) (.sh (.int p.2)) (by simp at hl ⊢; omega) (h.append fun q hq => by rw [List.mem_singleton.mp hq]; exact ⟨hp.1, ht⟩) fun q hq => hc q (List.mem_cons_of_mem _ hq)
    refine ⟨acc', a', b', ?_, by rw [l2]; simp; omega, k2⟩
    rw [List.map_cons, pLoop, e]
    exact e2
theorem pv_law_tame (c : List Pc) (hl : c.length ≤ 1000) (h : CordOk c) : ∃ (c' : List Pc) (r : Sl), fn_law_tame [.list (c.map pcD)] = some r ∧ (r = .br (.list (c'.map pcD)) ∨ r = .ow (c'.map pcD)) ∧ c'.length = c.length ∧ CordOk c' := by
  by_cases l8 : (c.length : Int) < 4
  · refine ⟨c, .br (.list (c.map pcD)), ?_, Or.inl rfl, rfl, h⟩
    simp only [fn_law_tame, fnB, List.length_cons, List.length_nil, Nat.zero_add, runB, g_law_tame, pSeq, pIfS, isB, pBin, pCaS, aCons, pVar, startE, List.map_cons, List.map_nil, Nat.reduceSub, List.replicate, List.cons_append, List.nil_append, List.getElem?_cons_zero, Sl.isBr, Bool.false_and, Bool.false_eq_true, aNil, Option.map_some, if_false, Option.bind_some, dLen, lookA, look, Sl.val, List.length_map, pC, sc2, dLt, l8, decide_true, pRet, pNext, if_true, pSet, pLst, dNil, Nat.reduceLeDiff, PL.settle, frz, frzAll, pFor, iAny, outS, Clean, flat]
  · obtain ⟨acc', a', b', e, l, k⟩ := pl_law_tame (.sh (.list (c.map pcD))) c [] .no .no (by simpa using hl) cord_nil h
    refine ⟨acc', .ow (acc'.map pcD), ?_, Or.inr rfl, by simpa using l, k⟩
    simp only [List.map_nil] at e
    simp only [fn_law_tame, fnB, List.length_cons, List.length_nil, Nat.zero_add, runB, g_law_tame, pSeq, pIfS, isB, pBin, pCaS, aCons, pVar, startE, List.map_cons, List.map_nil, Nat.reduceSub, List.replicate, List.cons_append, List.nil_append, List.getElem?_cons_zero, Sl.isBr, Bool.false_and, Bool.false_eq_true, aNil, Option.map_some, if_false, Option.bind_some, dLen, lookA, look, Sl.val, List.length_map, pC, sc2, dLt, l8, decide_false, pRet, pNext, pSet, pLst, dNil, Nat.reduceLeDiff, if_true, PL.settle, frz, frzAll, pFor, iAny, Nat.reduceAdd, Nat.reduceLT, List.set_cons_succ, List.set_cons_zero, e, List.getElem?_cons_succ, outS, Clean, flatA_pc]
theorem pl_law_runs (x0 : Sl) : ∀ (c : List Pc) (st : List Pc) (a b : Sl), st.length + c.length ≤ 100000 → NailsOk st → NailsOk c → ∃ a' b', pLoop t_law_runs_L0 g_law_runs_L0 (c.map pcD) [x0, .ow (st.reverse.map pcD), a, b] = some ([x0, .ow ((c.foldl NH.stp st).reverse.map pcD), a', b'], .nx)
  | [], st, a, b, _, _, _ => ⟨a, b, rfl⟩
  | p :: c, st, a, b, h, hs, hc => by
    have step : ∃ a' b', (t_law_runs_L0 (pcD p) [x0, .ow (st.reverse.map pcD), a, b]).bind g_law_runs_L0 = some ([x0, .ow ((NH.stp st p).reverse.map pcD), a', b'], .nx) := by
      have e0 := dEq_cord_nil hs.reverse
      cases st with
      | nil =>
        simp only [List.reverse_nil, List.map_nil] at e0
        by_cases z : p.2 = 0
        · simp only [t_law_runs_L0, gTupP, pcD, z, List.length_cons, List.length_nil, Nat.zero_add, Nat.reduceAdd, gConsP, gNameP, List.reverse_nil, List.map_nil, Nat.reduceLT, List.set_cons_succ, List.set_cons_zero, if_true, Option.bind_some, gNilP, List.isEmpty_nil, g_law_runs_L0, pNe, pEq, pSeq, pIfS, tAndP, isB, pBin, pVar, List.getElem?_cons_succ, List.getElem?_cons_zero, Sl.isBr, Bool.false_and, Bool.false_eq_true, pLst, dNil, Nat.reduceLeDiff, sc2, look, Sl.val, if_false, e0, decide_true, Option.map_some, Bool.not_true, pUn, pC, dNeg, pIx, hot, hot1, Option.any_some, pSet, Bool.true_and, pPop, pAdd, PL.settle, frz, frzAll, pNext, Nat.reduceSub, Bool.not_false, Bool.true_or, Bool.and_true, pExpr, pAppend, pTup, dCons, dEq_int, List.nil_append, NH.stp]
          exact ⟨_, _, rfl⟩
        · simp only [t_law_runs_L0, gTupP, pcD, List.length_cons, List.length_nil, Nat.zero_add, Nat.reduceAdd, gConsP, gNameP, List.reverse_nil, List.map_nil, Nat.reduceLT, List.set_cons_succ, List.set_cons_zero, if_true, Option.bind_some, gNilP, List.isEmpty_nil, g_law_runs_L0, pNe, pEq, pSeq, pIfS, tAndP, isB, pBin, pVar, List.getElem?_cons_succ, List.getElem?_cons_zero, Sl.isBr, Bool.false_and, Bool.false_eq_true, pLst, dNil, Nat.reduceLeDiff, sc2, look, Sl.val, if_false, e0, decide_true, Option.map_some, Bool.not_true, pUn, pC, dNeg, pIx, hot, hot1, Option.any_some, pSet, Bool.true_and, pPop, pAdd, PL.settle, frz, frzAll, pNext, Nat.reduceSub, Bool.not_false, Bool.true_or, Bool.and_true, pExpr, pAppend, pTup, dCons, dEq_int, z, decide_false, List.nil_append, NH.stp]
          exact ⟨_, _, rfl⟩
      | cons q st =>
        have lb : st.length < 1000000 ∧ st.length + 1 < 1000000 := by simp at h; omega
        simp only [List.reverse_cons, List.map_append, List.map_cons, List.map_nil] at e0
        have et : ∀ ds, t_law_runs_L0 (pcD p) [x0, .ow ds, a, b] = some [x0, .ow ds, .sh (.str ⟨#[p.1]⟩), .sh (.int p.2)] := fun _ => rfl
        rw [et, Option.bind_some]
        by_cases e : q.1 = p.1
        · by_cases z : q.2 + p.2 = 0
          · simp only [g_law_runs_L0, pSeq, pIfS, tAndP, isB, pBin, pVar, List.reverse_cons, List.map_append, List.map_cons, List.map_nil, List.getElem?_cons_succ, List.getElem?_cons_zero, Sl.isBr, Bool.false_and, Bool.false_eq_true, pLst, dNil, Option.bind_some, List.length_nil, Nat.reduceLeDiff, if_true, pNe, sc2, look, Sl.val, if_false, e0, List.append_eq_nil_iff, reduceCtorEq, and_false, decide_false, Option.map_some, Bool.not_false, pUn, pC, dNeg, pIx, hot, hot1, pEq, Option.any_some, atI_lst, pSet, Bool.true_and, pPop, pAdd, PL.settle, frz, frzAll, pNext, pExpr, pAppend, pTup, dCons, NH.stp]
            simp only [pcD, e, atI_0, Option.map_some, Option.bind_some, List.getElem?_cons_succ, List.getElem?_cons_zero, dEq_str, decide_true, Bool.false_eq_true, List.dropLast_concat, List.set_cons_succ, List.set_cons_zero, get_lst, Bool.false_and, if_false, atI_1, Bool.not_false, Bool.true_or, Bool.and_true, Int.add_comm p.2 q.2, z, List.length_cons, List.length_nil, Nat.zero_add, Nat.reduceAdd, Nat.reduceLT, if_true, dEq_int, Bool.not_true, Nat.reduceLeDiff]
            simp [pcD]
          · simp only [g_law_runs_L0, pSeq, pIfS, tAndP, isB, pBin, pVar, List.reverse_cons, List.map_append, List.map_cons, List.map_nil, List.getElem?_cons_succ, List.getElem?_cons_zero, Sl.isBr, Bool.false_and, Bool.false_eq_true, pLst, dNil, Option.bind_some, List.length_nil, Nat.reduceLeDiff, if_true, pNe, sc2, look, Sl.val, if_false, e0, List.append_eq_nil_iff, reduceCtorEq, and_false, decide_false, Option.map_some, Bool.not_false, pUn, pC, dNeg, pIx, hot, hot1, pEq, Option.any_some, atI_lst, pSet, Bool.true_and, pPop, pAdd, PL.settle, frz, frzAll, pNext, pExpr, pAppend, pTup, dCons, NH.stp]
            simp only [pcD, e, atI_0, Option.map_some, Option.bind_some, List.getElem?_cons_succ, List.getElem?_cons_zero, dEq_str, decide_true, Bool.false_eq_true, List.dropLast_concat, List.set_cons_succ, List.set_cons_zero, get_lst, Bool.false_and, if_false, atI_1, Bool.not_false, Bool.true_or, Bool.and_true, Int.add_comm p.2 q.2, List.length_cons, List.length_nil, Nat.zero_add, Nat.reduceAdd, Nat.reduceLT, if_true, dEq_int, z, decide_false, Nat.reduceLeDiff, List.length_map, List.length_reverse, lb]
            simp [pcD]
        · by_cases z : p.2 = 0
          · simp only [g_law_runs_L0, pSeq, pIfS, tAndP, isB, pBin, pVar, List.reverse_cons, List.map_append, List.map_cons, List.map_nil, List.getElem?_cons_succ, List.getElem?_cons_zero, Sl.isBr, Bool.false_and, Bool.false_eq_true, pLst, dNil, Option.bind_some, List.length_nil, Nat.reduceLeDiff, if_true, pNe, sc2, look, Sl.val, if_false, e0, List.append_eq_nil_iff, reduceCtorEq, and_false, decide_false, Option.map_some, Bool.not_false, pUn, pC, dNeg, pIx, hot, hot1, pEq, Option.any_some, atI_lst, pSet, Bool.true_and, pPop, pAdd, PL.settle, frz, frzAll, pNext, pExpr, pAppend, pTup, dCons, NH.stp]
            simp only [pcD, z, atI_0, Option.map_some, Option.bind_some, List.getElem?_cons_succ, List.getElem?_cons_zero, dEq_str, str1_eq, e, decide_false, Bool.false_eq_true, List.dropLast_concat, List.set_cons_succ, List.set_cons_zero, get_lst, Bool.false_and, if_false, atI_1, Bool.not_false, Bool.true_or, Bool.and_true, List.length_cons, List.length_nil, Nat.zero_add, Nat.reduceAdd, Nat.reduceLT, if_true, dEq_int, decide_true, Bool.not_true, Nat.reduceLeDiff]
            simp [pcD]
          · simp only [g_law_runs_L0, pSeq, pIfS, tAndP, isB, pBin, pVar, List.reverse_cons, List.map_append, List.map_cons, List.map_nil, List.getElem?_cons_succ, List.getElem?_cons_zero, Sl.isBr, Bool.false_and, Bool.false_eq_true, pLst, dNil, Option.bind_some, List.length_nil, Nat.reduceLeDiff, if_true, pNe, sc2, look, Sl.val, if_false, e0, List.append_eq_nil_iff, reduceCtorEq, and_false, decide_false, Option.map_some, Bool.not_false, pUn, pC, dNeg, pIx, hot, hot1, pEq, Option.any_some, atI_lst, pSet, Bool.true_and, pPop, pAdd, PL.settle, frz, frzAll, pNext, pExpr, pAppend, pTup, dCons, NH.stp]
            simp only [pcD, atI_0, Option.map_some, Option.bind_some, List.getElem?_cons_succ, List.getElem?_cons_zero, dEq_str, str1_eq, e, decide_false, Bool.false_eq_true, List.dropLast_concat, List.set_cons_succ, List.set_cons_zero, List.length_append, List.length_map, List.length_reverse, List.length_cons, List.length_nil, Nat.zero_add, Bool.not_false, Bool.true_or, Bool.and_true, if_false, dEq_int, z, Nat.reduceAdd, Nat.reduceLeDiff, if_true, lb]
            simp [pcD]
    obtain ⟨a', b', e⟩ := step
    have ih := pl_law_runs x0 c (NH.stp st p) a' b' (by have := NH.stp_len st p; simp at h; omega) (hs.stp (hc p (List.mem_cons_self ..))) fun q hq => hc q (List.mem_cons_of_mem _ hq)
    obtain ⟨a2, b2, e2⟩ := ih
    refine ⟨a2, b2, ?_⟩
    rw [List.map_cons, pLoop, e]
    exact e2
theorem pc_law_runs : ∀ (c : List Pc) (x : Sl), cLoop t_law_runs_C1 tYesP e_law_runs_C1 (c.map pcD) [x] = some (c.map pcD)
  | [], x => rfl
  | p :: c, x => by
    have e : t_law_runs_C1 (pcD p) [x] = some [.sh (pcD p)] := rfl
    have e2 : e_law_runs_C1 [.sh (pcD p)] = some (.sh (pcD p), [.sh (pcD p)]) := rfl
    rw [List.map_cons, cLoop, e, Option.bind_some]
    simp only [tYesP, frz, Option.bind_some, e2, pc_law_runs c, Option.map_some, if_true]
theorem pv_law_runs (c : List Pc) (h : c.length ≤ 100000) (hN : NailsOk c) : fn_law_runs [.list (c.map pcD)] = some (.ow ((NH.runs c).map pcD)) := by
  obtain ⟨a, b, e⟩ := pl_law_runs (.sh (.list (c.map pcD))) c.reverse [] .no .no (by simpa using h) nails_nil hN.reverse
  simp only [List.reverse_nil, List.map_nil, List.map_reverse] at e
  rw [runs_fold] at e
  have hl := NH.foldl_len c.reverse ([] : List Pc)
  rw [runs_fold] at hl
  have lb : (NH.runs c).length ≤ 1000000 := by simp at hl; omega
  have k := pc_law_runs (NH.runs c) .no
  simp only [fn_law_runs, fnB, List.length_cons, List.length_nil, Nat.zero_add, runB, g_law_runs, pSeq, pSet, pLst, dNil, startE, List.map_cons, List.map_nil, Nat.reduceSub, List.replicate, List.cons_append, List.nil_append, Option.bind_some, Nat.reduceLeDiff, if_true, PL.settle, frz, frzAll, Nat.reduceAdd, Nat.reduceLT, List.set_cons_succ, List.set_cons_zero, pFor, iRevP, pVar, pRet, pComp, slotsE, slotE, List.getElem?_cons_zero, e, List.getElem?_cons_succ, List.reverse_reverse, k, flatA_pc, List.length_map, lb, decide_true, Bool.and_true, outS, Clean]
theorem strs_pc : ∀ (w : List Nat), strsOf (w.map fun a => (.str ⟨#[a]⟩ : PyData)) = some (w.map fun a => (⟨#[a]⟩ : Str))
  | [] => rfl
  | a :: w => by simp only [List.map_cons, strsOf, strs_pc w, Option.map_some]
theorem pc_nails_in_order : ∀ (c : List Pc) (x0 x1 : Sl), cLoop t_nails_in_order_C0 tYesP e_nails_in_order_C0 (c.map pcD) [x0, x1] = some ((c.map (·.1)).map fun a => (.str ⟨#[a]⟩ : PyData))
  | [], x0, x1 => rfl
  | p :: c, x0, x1 => by
    have e : (t_nails_in_order_C0 (pcD p) [x0, x1]) = some [.sh (.str ⟨#[p.1]⟩), .sh (.int p.2)] := rfl
    have e2 : e_nails_in_order_C0 [.sh (.str ⟨#[p.1]⟩), .sh (.int p.2)] = some (.sh (.str ⟨#[p.1]⟩), [.sh (.str ⟨#[p.1]⟩), .sh (.int p.2)]) := rfl
    rw [List.map_cons, cLoop, e, Option.bind_some]
    simp only [tYesP, frz, Option.bind_some, e2, pc_nails_in_order c, Option.map_some, if_true, List.map_cons]
theorem flat_strs : ∀ w : List Nat, flatA (w.map fun a => (.str ⟨#[a]⟩ : PyData)) = true
  | [] => rfl
  | a :: w => by simp [flatA, flat, flat_strs w]
theorem len_strs (w : List Nat) : ((w.map fun a => (⟨#[a]⟩ : Str)).map (·.length)).sum + (w.map fun a => (⟨#[a]⟩ : Str)).length * (Str.ofString "").length = w.length := by
  have : (Str.ofString "").length = 0 := rfl
  rw [this, Nat.mul_zero, Nat.add_zero]
  induction w with
  | nil => rfl
  | cons a w ih => simp only [List.map_cons, List.sum_cons, ih, List.length_cons]; show 1 + _ = _; omega
theorem join_strs : ∀ (w : List Nat), Txt.join "" (w.map fun a => (⟨#[a]⟩ : Str)) = ⟨w.toArray⟩ := by
  intro w
  show Builtin.Str.glued "" _ = _
  rw [StrLaws.glued_eq_join]
  induction w with
  | nil => rfl
  | cons a w ih =>
    cases w with
    | nil => rfl
    | cons b w =>
      have e : Str.join "" ((a :: b :: w).map fun a => (⟨#[a]⟩ : Str)) = (⟨#[a]⟩ : Str) ++ "" ++ Str.join "" ((b :: w).map fun a => (⟨#[a]⟩ : Str)) := rfl
      rw [e, ih]
      show (⟨(#[a] ++ (Str.ofString "").cps) ++ (b :: w).toArray⟩ : Str) = _
      rw [show (Str.ofString "").cps = #[] by decide +kernel]
      simp
theorem pv_nails_in_order (c : List Pc) (h : c.length ≤ 1000000) : fn_nails_in_order [.list (c.map pcD)] = some (.sh (.str ⟨(c.map (·.1)).toArray⟩)) := by
  have k := pc_nails_in_order c .no .no
  have l := len_strs (c.map (·.1))
  have l2 : ((c.map (·.1)).map fun a => (.str ⟨#[a]⟩ : PyData)).length ≤ 1000000 := by simpa using h
  have l3 : (c.map (·.1)).length ≤ 1000000 := by simpa using h
  simp only [fn_nails_in_order, fnB, List.length_cons, List.length_nil, Nat.zero_add, runB, g_nails_in_order, pRet, pJoin, pUn, pComp, iAny, pVar, startE, List.map_cons, List.map_nil, Nat.sub_self, List.replicate, List.cons_append, List.nil_append, List.getElem?_cons_zero, frz, Option.bind_some, slotsE, slotE, k, flat_strs, l2, decide_true, Bool.and_true, if_true, look, Sl.val, dJoin, strs_pc, l, l3, join_strs, Option.map_some, outS, Clean, flat]
noncomputable def rngF (n : Nat) (g : Nat → Int) : List PyData := (List.range n).map fun k => .int (g k)
theorem rngF_len (n : Nat) (g : Nat → Int) : (rngF n g).length = n := by simp [rngF]
theorem rngF_at {n : Nat} {g : Nat → Int} {k : Nat} (h : k < n) : atI (rngF n g) (k : Int) = some (.int (g k)) := by
  rw [atI_nat']
  simp [rngF, List.getElem?_map, List.getElem?_range h]
theorem rngF_ix {n : Nat} {k : Nat} (h : k < n) : ixN n (k : Int) = some k := by
  unfold ixN
  rw [if_pos (by omega), if_pos (by omega)]
  simp
theorem rngF_congr {n : Nat} {g g' : Nat → Int} (h : ∀ k, k < n → g k = g' k) : rngF n g = rngF n g' := by
  unfold rngF
  apply List.map_congr_left
  intro k hk
  rw [h k (List.mem_range.mp hk)]
theorem rngF_set {n : Nat} {g : Nat → Int} {i : Nat} {v : Int} : (rngF n g).set i (.int v) = rngF n (fun k => if k = i then v else g k) := by
  apply List.ext_getElem?
  intro k
  rw [List.getElem?_set]
  simp only [rngF, List.getElem?_map, List.length_map, List.length_range]
  by_cases e : i = k
  · subst e
    by_cases h : i < n
    · simp [h, List.getElem?_range]
    · simp [h, List.getElem?_eq_none]
  · rw [if_neg e]
    by_cases h : k < n
    · simp [List.getElem?_range, h, Ne.symm e]
    · simp [List.getElem?_eq_none, h]
theorem str_len (w : List Nat) : (⟨w.toArray⟩ : Str).length = w.length := by show w.toArray.size = _; simp
noncomputable def pstep (w : List Nat) (p : Pc) (f : Nat → Int) : Nat → Int
  | 0 => f 0
  | k + 1 => f (k + 1) + (if w[k]? = some p.1 then f k * p.2 else 0)
theorem pl_law_picks_in (w : List Nat) (x1 : Sl) (p : Pc) (f : Nat → Int) (hb : ∀ k, (f k).natAbs < 2 ^ 20000) (hp : p.2.natAbs < 2 ^ 20000) (hw : w.length ≤ 1000) : ∀ (j : Nat) (a : Sl), j ≤ w.length →
    ∃ a', pLoop t_law_picks_L1 g_law_picks_L1 (rngC (j : Int) (-1) j) [.sh (.str ⟨w.toArray⟩), x1, .ow (rngF (w.length + 1) (fun k => if k ≤ j then f k else pstep w p f k)), .sh (.str ⟨#[p.1]⟩), .sh (.int p.2), a] = some ([.sh (.str ⟨w.toArray⟩), x1, .ow (rngF (w.length + 1) (pstep w p f)), .sh (.str ⟨#[p.1]⟩), .sh (.int p.2), a'], .nx)
  | 0, a, _ => by
    have e : (fun k => if k ≤ 0 then f k else pstep w p f k) = pstep w p f := by
      funext k
      cases k with
      | zero => rfl
      | succ k => rw [if_neg (by omega)]
    rw [e]
    exact ⟨a, rfl⟩
  | j + 1, a, hj => by
    obtain ⟨y, hy⟩ : ∃ y, w[j]? = some y := ⟨_, List.getElem?_eq_getElem (by omega)⟩
    have hy2 : atI w ((j : Int)) = some y := by rw [atI_nat', hy]
    have lw : w.length ≤ 1000000 := by omega
    have e1 : ((j + 1 : Nat) : Int) - 1 = (j : Int) := by omega
    have a1 : atI (rngF (w.length + 1) (fun k => if k ≤ j + 1 then f k else pstep w p f k)) ((j + 1 : Nat) : Int) = some (.int (f (j + 1))) := by rw [rngF_at (by omega), if_pos (by omega)]
    have a2 : atI (rngF (w.length + 1) (fun k => if k ≤ j + 1 then f k else pstep w p f k)) (j : Int) = some (.int (f j)) := by rw [rngF_at (by omega), if_pos (by omega)]
    have ix := rngF_ix (n := w.length + 1) (k := j + 1) (by omega)
    have ok : okMul (f j) p.2 = true := okMul_b (hb j) hp
    have step : (t_law_picks_L1 (.int ((j + 1 : Nat) : Int)) [.sh (.str ⟨w.toArray⟩), x1, .ow (rngF (w.length + 1) (fun k => if k ≤ j + 1 then f k else pstep w p f k)), .sh (.str ⟨#[p.1]⟩), .sh (.int p.2), a]).bind g_law_picks_L1 = some ([.sh (.str ⟨w.toArray⟩), x1, .ow (rngF (w.length + 1) (fun k => if k ≤ j then f k else pstep w p f k)), .sh (.str ⟨#[p.1]⟩), .sh (.int p.2), .sh (.int ((j + 1 : Nat) : Int))], .nx) := by
      by_cases c : y = p.1
      · have fin : rngF (w.length + 1) (fun k => if k = j + 1 then f (j + 1) + f j * p.2 else (fun k => if k ≤ j + 1 then f k else pstep w p f k) k) = rngF (w.length + 1) (fun k => if k ≤ j then f k else pstep w p f k) := by
          apply rngF_congr
          intro k hk
          by_cases e : k = j + 1
          · subst e
            rw [if_pos rfl, if_neg (by omega), pstep, hy, if_pos (by rw [c])]
          · rw [if_neg e]
            by_cases e2 : k ≤ j
            · show (if k ≤ j + 1 then f k else pstep w p f k) = _
              rw [if_pos (by omega), if_pos e2]
            · show (if k ≤ j + 1 then f k else pstep w p f k) = _
              rw [if_neg (by omega), if_neg e2]
        simp only [t_law_picks_L1, gNameP, List.length_cons, List.length_nil, Nat.zero_add, Nat.reduceAdd, Nat.reduceLT, List.set_cons_succ, List.set_cons_zero, if_true, g_law_picks_L1, pEq, pSub, Option.bind_some, pIfS, isB, pBin, pVar, List.getElem?_cons_zero, Sl.isBr, Bool.false_and, Bool.false_eq_true, pC, sc2, look, Sl.val, iOp, if_false, pIx, hot, hot1, List.getElem?_cons_succ, e1, Option.map_some, str_len, lw, hy2, c, dEq_str, decide_true, pSetIx, pMul, Int.reduceNeg, pAdd, frz, pNext, Option.any_some, a1, a2, Bool.not_false, Bool.true_or, Bool.and_true, ok, rngF_set, rngF_len, ix, fin]
      · have fin : rngF (w.length + 1) (fun k => if k ≤ j + 1 then f k else pstep w p f k) = rngF (w.length + 1) (fun k => if k ≤ j then f k else pstep w p f k) := by
          apply rngF_congr
          intro k hk
          by_cases e : k = j + 1
          · subst e
            rw [if_pos (by omega), if_neg (by omega), pstep, hy, if_neg (by rw [Option.some.injEq]; exact c), Int.add_zero]
          · by_cases e2 : k ≤ j
            · rw [if_pos (by omega), if_pos e2]
            · rw [if_neg (by omega), if_neg e2]
        simp only [t_law_picks_L1, gNameP, fin, List.length_cons, List.length_nil, Nat.zero_add, Nat.reduceAdd, Nat.reduceLT, List.set_cons_succ, List.set_cons_zero, if_true, g_law_picks_L1, pEq, pSub, Option.bind_some, pIfS, isB, pBin, pVar, List.getElem?_cons_zero, Sl.isBr, Bool.false_and, Bool.false_eq_true, pC, sc2, look, Sl.val, iOp, if_false, pIx, hot, hot1, List.getElem?_cons_succ, e1, Option.map_some, str_len, lw, hy2, dEq_str, str1_eq, c, decide_false, pSetIx, pMul, Int.reduceNeg, pAdd, frz, pNext, Option.any_some]
    obtain ⟨a', e⟩ := pl_law_picks_in w x1 p f hb hp hw j (.sh (.int ((j + 1 : Nat) : Int))) (by omega)
    refine ⟨a', ?_⟩
    rw [rngC_down, pLoop, step, Option.bind_some, e1]
    exact e
theorem take_snoc {w : List Nat} {k y : Nat} (h : w[k]? = some y) : w.take (k + 1) = w.take k ++ [y] := by
  rw [List.take_add_one, h]
  rfl
theorem pstep_picks {w : List Nat} {p : Pc} {d : List Pc} {k : Nat} (hk : k < w.length + 1) : pstep w p (fun k => NH.picks (w.take k) d) k = NH.picks (w.take k) (d ++ [p]) := by
  cases k with
  | zero => simp only [pstep, List.take_zero, NH.picks_nil]
  | succ k =>
    obtain ⟨y, hy⟩ : ∃ y, w[k]? = some y := ⟨_, List.getElem?_eq_getElem (by omega)⟩
    rw [take_snoc hy, NH.picks_snoc, ← take_snoc hy, pstep, hy]
    by_cases c : y = p.1
    · rw [if_pos (by rw [c]), if_pos c.symm]
    · rw [if_neg (by rw [Option.some.injEq]; exact c), if_neg (fun z => c z.symm)]
theorem pl_law_picks (w : List Nat) (x1 : Sl) (hw : w.length ≤ 1000) : ∀ (c d : List Pc) (a b e : Sl), NH.mag (d ++ c) < 2 ^ 20000 →
    ∃ a' b' e', pLoop t_law_picks_L0 g_law_picks_L0 (c.map pcD) [.sh (.str ⟨w.toArray⟩), x1, .ow (rngF (w.length + 1) (fun k => NH.picks (w.take k) d)), a, b, e] = some ([.sh (.str ⟨w.toArray⟩), x1, .ow (rngF (w.length + 1) (fun k => NH.picks (w.take k) (d ++ c))), a', b', e'], .nx)
  | [], d, a, b, e, _ => ⟨a, b, e, by rw [List.append_nil]; rfl⟩
  | p :: c, d, a, b, e, h => by
    have hp : p.2.natAbs < 2 ^ 20000 := Nat.lt_trans (NH.mag_mem (List.mem_append.mpr (Or.inr (List.mem_cons_self ..)))) h
    have hm : NH.mag d ≤ NH.mag (d ++ p :: c) := by
      rw [NH.mag_append]
      exact Nat.le_mul_of_pos_right _ (NH.mag_pos _)
    obtain ⟨e1, s1⟩ := pl_law_picks_in w x1 p (fun k => NH.picks (w.take k) d) (fun k => Nat.lt_of_le_of_lt (NH.picks_le d _) (by omega)) hp hw w.length e (Nat.le_refl _)
    have f1 : rngF (w.length + 1) (fun k => if k ≤ w.length then NH.picks (w.take k) d else pstep w p (fun k => NH.picks (w.take k) d) k) = rngF (w.length + 1) (fun k => NH.picks (w.take k) d) := rngF_congr fun k hk => if_pos (by omega)
    have f2 : rngF (w.length + 1) (pstep w p (fun k => NH.picks (w.take k) d)) = rngF (w.length + 1) (fun k => NH.picks (w.take k) (d ++ [p])) := rngF_congr fun k hk => pstep_picks hk
    rw [f1, f2] at s1
    have lw : w.length ≤ 1000000 := by omega
    have ok : okR (w.length : Int) ∧ okR (0 : Int) ∧ okR (-1 : Int) ∧ (-1 : Int) ≠ 0 := by unfold okR; omega
    have rn : rngN (w.length : Int) 0 (-1) = w.length := by rw [rngN_down]; omega
    have step : (t_law_picks_L0 (pcD p) [.sh (.str ⟨w.toArray⟩), x1, .ow (rngF (w.length + 1) (fun k => NH.picks (w.take k) d)), a, b, e]).bind g_law_picks_L0 = some ([.sh (.str ⟨w.toArray⟩), x1, .ow (rngF (w.length + 1) (fun k => NH.picks (w.take k) (d ++ [p]))), .sh (.str ⟨#[p.1]⟩), .sh (.int p.2), e1], .nx) := by
      simp only [t_law_picks_L0, gTupP, pcD, List.length_cons, List.length_nil, Nat.zero_add, Nat.reduceAdd, gConsP, gNameP, Nat.reduceLT, List.set_cons_succ, List.set_cons_zero, if_true, Option.bind_some, gNilP, List.isEmpty_nil, g_law_picks_L0, pFor, iRng3P, aCons, pCaS, pVar, List.getElem?_cons_zero, Sl.isBr, Bool.false_and, Bool.false_eq_true, aNil, Option.map_some, if_false, dLen, lookA, look, Sl.val, str_len, lw, pC, pUn, dNeg, Int.reduceNeg, ok, Int.reduceNe, and_self, rn, s1]
    obtain ⟨a', b', e', s2⟩ := pl_law_picks w x1 hw c (d ++ [p]) (.sh (.str ⟨#[p.1]⟩)) (.sh (.int p.2)) e1 (by simpa using h)
    refine ⟨a', b', e', ?_⟩
    rw [List.map_cons, pLoop, step]
    simpa using s2
theorem pv_law_picks (w : List Nat) (c : List Pc) (hw : w.length ≤ 1000) (hm : NH.mag c < 2 ^ 20000) : fn_law_picks [.str ⟨w.toArray⟩, .list (c.map pcD)] = some (.sh (.int (NH.picks w c))) := by
  obtain ⟨a, b, e, s⟩ := pl_law_picks w (.sh (.list (c.map pcD))) hw c [] .no .no .no hm
  have st : (.int 1 : PyData) :: (List.replicate w.length [(.int 0 : PyData)]).flatten = rngF (w.length + 1) (fun k => NH.picks (w.take k) ([] : List Pc)) := by
    have e0 : ∀ n, (List.replicate n [(.int 0 : PyData)]).flatten = List.replicate n (.int 0) := fun n => by
      induction n with
      | zero => rfl
      | succ n ih => rw [List.replicate_succ, List.flatten_cons, ih]; rfl
    rw [e0, rngF, List.range_succ_eq_map, List.map_cons, List.take_zero, NH.picks_nil, List.map_map]
    congr 1
    apply List.ext_getElem?
    intro k
    by_cases h : k < w.length
    · obtain ⟨y, hy⟩ : ∃ y, w[k]? = some y := ⟨_, List.getElem?_eq_getElem (by omega)⟩
      have : NH.picks (w.take (k + 1)) ([] : List Pc) = 0 := by
        rw [take_snoc hy]
        cases w.take k <;> rfl
      simp [h, List.getElem?_map, List.getElem?_range h, List.getElem?_replicate, this]
    · simp [h, List.getElem?_eq_none]
  have l2 : (1 + (List.replicate w.length [(.int 0 : PyData)]).flatten.length ≤ 1000000) := by simp; omega
  have lw : w.length ≤ 1000000 := by omega
  have l3 : w.length ≤ 1000000 ∧ -1000000 ≤ (w.length : Int) ∧ (w.length : Int) ≤ 1000000 := by omega
  have fin : atI (rngF (w.length + 1) (fun k => NH.picks (w.take k) c)) (w.length : Int) = some (.int (NH.picks w c)) := by
    rw [rngF_at (by omega), List.take_length]
  rw [List.nil_append] at s
  simp only [fn_law_picks, fnB, List.length_cons, List.length_nil, Nat.zero_add, Nat.reduceAdd, runB, g_law_picks, pSeq, pSet, pBin, pLst, dCons, pC, startE, List.map_cons, List.map_nil, Nat.reduceSub, List.replicate, List.cons_append, List.nil_append, frz, dNil, Option.map_some, Option.bind_some, Nat.reduceLeDiff, if_true, Sl.isBr, Bool.false_and, Bool.false_eq_true, pCaS, aCons, pVar, aNil, if_false, dLen, pMul, look, Sl.val, Int.reduceNeg, hot, hot1, Bool.not_false, Bool.true_or, Bool.and_true, pAdd, List.getElem?_cons_zero, lookA, str_len, lw, Int.toNat_natCast, Nat.one_mul, l3, and_self, decide_true, l2, st, PL.settle, frzAll, Nat.reduceLT, List.set_cons_succ, List.set_cons_zero, pFor, iAny, pRet, pIx, List.getElem?_cons_succ, s, Option.any_some, fin, outS, Clean, flat]
theorem pc_contrary : ∀ (d : List Pc) (x0 x1 : Sl), cLoop t_contrary_C0 tYesP e_contrary_C0 (d.map pcD) [x0, x1] = some ((d.map fun p => ((p.1, -p.2) : Pc)).map pcD)
  | [], x0, x1 => rfl
  | p :: d, x0, x1 => by
    have e : (t_contrary_C0 (pcD p) [x0, x1]) = some [.sh (.str ⟨#[p.1]⟩), .sh (.int p.2)] := rfl
    have e2 : e_contrary_C0 [.sh (.str ⟨#[p.1]⟩), .sh (.int p.2)] = some (.sh (pcD (p.1, -p.2)), [.sh (.str ⟨#[p.1]⟩), .sh (.int p.2)]) := by
      simp only [e_contrary_C0, pTup, dCons, pVar, List.getElem?_cons_zero, frz, pUn, look, Sl.val, dNeg, dNil, Option.map_some, Option.bind_some, List.getElem?_cons_succ, List.length_cons, List.length_nil, Nat.zero_add, Nat.reduceAdd, Nat.reduceLeDiff, if_true, pcD]
    rw [List.map_cons, cLoop, e, Option.bind_some]
    simp only [tYesP, frz, Option.bind_some, e2, pc_contrary d, Option.map_some, if_true, List.map_cons]
theorem pv_contrary (c : List Pc) (h : c.length ≤ 1000000) : fn_contrary [.list (c.map pcD)] = some (.ow ((NH.contr c).map pcD)) := by
  have hl : (NH.contr c).length = c.length := NH.contr_length c
  have e : (c.reverse.map fun p => ((p.1, -p.2) : Pc)) = NH.contr c := rfl
  have k := pc_contrary c.reverse .no .no
  rw [e, List.map_reverse] at k
  simp only [fn_contrary, fnB, List.length_cons, List.length_nil, Nat.zero_add, runB, g_contrary, pRet, pComp, iRevP, pVar, startE, List.map_cons, List.map_nil, Nat.sub_self, List.replicate, List.cons_append, List.nil_append, List.getElem?_cons_zero, frz, Option.bind_some, slotsE, slotE, k, flatA_pc, List.length_map, hl, h, decide_true, Bool.and_true, if_true, outS, Clean]
theorem pv_joined (c d : List Pc) (h : c.length + d.length ≤ 1000000) : fn_joined [.list (c.map pcD), .list (d.map pcD)] = some (.ow ((c ++ d).map pcD)) := by
  simp only [fn_joined, fnB, List.length_cons, List.length_nil, Nat.zero_add, Nat.reduceAdd, runB, g_joined, pRet, pBin, pVar, startE, List.map_cons, List.map_nil, Nat.sub_self, List.replicate, List.cons_append, List.nil_append, List.getElem?_cons_zero, Sl.isBr, Bool.false_and, Bool.false_eq_true, pAdd, look, Sl.val, hot, hot1, if_false, Option.bind_some, List.getElem?_cons_succ, Bool.not_false, Bool.true_or, Bool.and_true, List.length_map, h, decide_true, ← List.map_append, if_true, outS, Clean, flatA_pc]
theorem seq_nx {f g : PSv} {E E1 : List Sl} (h : f E = some (E1, .nx)) : pSeq f g E = g E1 := by
  unfold pSeq
  rw [h]
  rfl
theorem if_no {c : PTv} {a b : PSv} {E E1 : List Sl} {r : Option (List Sl × Fl)} (h : c E = some (false, E1)) (k : b E1 = r) : pIfS c a b E = r := by
  unfold pIfS
  rw [h, ← k]
  rfl
theorem if_yes {c : PTv} {a b : PSv} {E E1 : List Sl} {r : Option (List Sl × Fl)} (h : c E = some (true, E1)) (k : a E1 = r) : pIfS c a b E = r := by
  unfold pIfS
  rw [h, ← k]
  rfl
theorem rng2_at {g : PAv} {E E' : List Sl} {i j : Int} {ss : List Sl} (h : g E = some (ss, E')) (hl : lookA E' ss = some [.int i, .int j]) (c : -1000000 ≤ i ∧ i ≤ 1000000 ∧ -1000000 ≤ j ∧ j ≤ 1000000) : iRng2P g E = some (rngD i (j - i).toNat, E') := by
  unfold iRng2P
  rw [h, Option.bind_some]
  simp only [hl]
  rw [if_pos c]
theorem rng3_at {g : PAv} {E E' : List Sl} {i j k : Int} {ss : List Sl} (h : g E = some (ss, E')) (hl : lookA E' ss = some [.int i, .int j, .int k]) (c : okR i ∧ okR j ∧ okR k ∧ k ≠ 0) : iRng3P g E = some (rngC i k (rngN i j k), E') := by
  unfold iRng3P
  rw [h, Option.bind_some]
  simp only [hl]
  rw [if_pos c]
theorem for_nx {it : PDv} {tg : PGv} {body : PSv} {E E1 E2 : List Sl} {ds : List PyData} (h : it E = some (ds, E1)) (l : pLoop tg body ds E1 = some (E2, .nx)) : pFor it tg body E = some (E2, .nx) := by
  unfold pFor
  rw [h, Option.bind_some, l]
theorem atI_L {n k : Nat} (g : Nat → Int) (h : k < n) : atI ((List.range n).map g) (k : Int) = some (g k) := by
  rw [atI_nn (by omega), Int.toNat_natCast, List.getElem?_map, List.getElem?_range h]
  rfl
theorem ixN_L {n k : Nat} (h : k < n) : ixN n (k : Int) = some k := by
  unfold ixN
  rw [if_pos (by omega), if_pos (by omega), Int.toNat_natCast]
theorem set_L {n k : Nat} (g : Nat → Int) (v : Int) : ((List.range n).map g).set k v = (List.range n).map fun i => if i = k then v else g i := by
  refine List.ext_getElem? fun i => ?_
  by_cases e : k = i
  · subst e
    by_cases h : k < n
    · rw [List.getElem?_set_self (by simpa using h), List.getElem?_map, List.getElem?_range h]
      simp
    · rw [List.getElem?_eq_none (by simp; omega), List.getElem?_eq_none (by simp; omega)]
  · rw [List.getElem?_set_ne e, List.getElem?_map, List.getElem?_map]
    by_cases h : i < n
    · have ne : ¬ i = k := fun z => e z.symm
      rw [List.getElem?_range h]
      simp [ne]
    · rw [List.getElem?_eq_none (by simp; omega)]
      rfl
theorem add_run (sg : List Int) (S : Nat → Int) (n l : Nat) (hl : l < n) (rest : List (Int × Int)) : ∀ (r s : Nat) (g : Nat → Int), 1 ≤ s → s + r ≤ l + 1 → (∀ j, s ≤ j → j < s + r → atI sg (j : Int) = some (S j)) → (∀ j, s ≤ j → j < s + r → okMul (S j) (g (l - j)) = true) →
    addAll sg ((List.range' s r).map (fun (j : Nat) => ((l : Int), (j : Int))) ++ rest) ((List.range n).map g) = addAll sg rest ((List.range n).map fun i => if i = l then g l + NH.sumR (fun j => S (s + j) * g (l - (s + j))) r else g i)
  | 0, s, g, _, _, _, _ => by
    have e : (fun i => if i = l then g l + NH.sumR (fun j => S (s + j) * g (l - (s + j))) 0 else g i) = g := by
      funext i
      by_cases h : i = l
      · subst h; simp [NH.sumR]
      · rw [if_neg h]
    rw [e]
    rfl
  | r + 1, s, g, hs, hr, ha, hk => by
    have e1 : atI ((List.range n).map g) ((l : Int) - (s : Int)) = some (g (l - s)) := by
      rw [show (l : Int) - (s : Int) = ((l - s : Nat) : Int) by omega]
      exact atI_L g (by omega)
    have e2 := ha s (Nat.le_refl _) (by omega)
    have e3 := hk s (Nat.le_refl _) (by omega)
    have e4 : ixN ((List.range n).map g).length (l : Int) = some l := by rw [List.length_map, List.length_range]; exact ixN_L hl
    have g1 : ∀ j, 1 ≤ j → j ≤ l → (if l - j = l then g l + S s * g (l - s) else g (l - j)) = g (l - j) := fun j h1 h2 => if_neg (by omega)
    rw [List.range'_succ, List.map_cons, List.cons_append, addAll]
    simp only [atI_L g hl, e2, e1, e4, e3, if_true, set_L]
    have ih := add_run sg S n l hl rest r (s + 1) (fun i => if i = l then g l + S s * g (l - s) else g i) (by omega) (by omega) (fun j h1 h2 => ha j (by omega) (by omega)) (fun j h1 h2 => by
      rw [g1 j (by omega) (by omega)]
      exact hk j (by omega) (by omega))
    rw [ih]
    congr 1
    refine List.map_congr_left fun i _ => ?_
    by_cases h : i = l
    · subst h
      simp only [if_true]
      rw [NH.sumR_head]
      simp only [Nat.add_zero]
      rw [NH.sumR_congr r (h' := fun j => S (s + (j + 1)) * g (i - (s + (j + 1)))) fun j hj => by rw [show s + 1 + j = s + (j + 1) by omega, g1 _ (by omega) (by omega)]]
      omega
    · simp only [if_neg h]
noncomputable def cutsTo (a : Nat) (w : List Nat) : Nat → List (Int × Int)
  | 0 => []
  | m + 1 => (List.range' 1 (NH.lead a (w.take (m + 1)).reverse)).map (fun (j : Nat) => (((m + 1 : Nat) : Int), (j : Int))) ++ cutsTo a w m
theorem add_cuts (sg : List Int) (w : List Nat) (c : List Pc) (p : Pc) (M : Nat) (hM : ∀ k, k ≤ w.length → NH.lead p.1 (w.take k).reverse ≤ M) (hs : ∀ j, j ≤ M → atI sg (j : Int) = some (NH.ch p.2 j)) (hb : ∀ j k, j ≤ M → k ≤ w.length → okMul (NH.ch p.2 j) (NH.beg w c k) = true) :
    ∀ m, m ≤ w.length → addAll sg (cutsTo p.1 w m) ((List.range (w.length + 1)).map fun i => if i ≤ m then NH.beg w c i else NH.beg w (c ++ [p]) i) = some ((List.range (w.length + 1)).map (NH.beg w (c ++ [p])))
  | 0, _ => by
    rw [cutsTo, addAll]
    congr 1
    refine List.map_congr_left fun i _ => ?_
    by_cases h : i ≤ 0
    · have : i = 0 := by omega
      subst this
      rw [if_pos h, NH.beg_more w c p 0 (by omega)]
      simp [NH.lead, NH.sumR]
    · rw [if_neg h]
  | m + 1, h => by
    have ld := NH.lead_le p.1 (w.take (m + 1)).reverse
    rw [List.length_reverse, List.length_take, Nat.min_eq_left h] at ld
    have hm := hM (m + 1) h
    rw [cutsTo, add_run sg (NH.ch p.2) (w.length + 1) (m + 1) (by omega) (cutsTo p.1 w m) _ 1 _ (Nat.le_refl _) (by omega) (fun j _ h2 => hs j (by omega)) (fun j h1 h2 => by rw [if_pos (by omega)]; exact hb j _ (by omega) (by omega))]
    rw [← add_cuts sg w c p M hM hs hb m (by omega)]
    congr 1
    refine List.map_congr_left fun i _ => ?_
    by_cases e : i = m + 1
    · subst e
      rw [if_pos rfl, if_pos (Nat.le_refl _), if_neg (by omega), NH.beg_more w c p (m + 1) h]
      congr 1
      refine NH.sumR_congr _ fun j hj => ?_
      rw [if_pos (by omega), Int.mul_comm, show 1 + j = j + 1 by omega]
    · rw [if_neg e]
      by_cases q : i ≤ m
      · rw [if_pos q, if_pos (by omega)]
      · rw [if_neg q, if_neg (by omega)]
theorem ch_next (t : Int) (k : Nat) : NH.ch t k * (t - ((k : Int) + 1) + 1) / ((k : Int) + 1) = NH.ch t (k + 1) := by
  have h := NH.ch_step t k
  rw [show NH.ch t k * (t - ((k : Int) + 1) + 1) = ((k : Int) + 1) * NH.ch t (k + 1) by rw [h, Int.mul_comm]; congr 1; omega]
  exact Int.mul_ediv_cancel_left _ (by omega)
theorem st_num (x1 a : Sl) (t : Int) (k : Nat) (hk : k ≤ 1000) (hm : okMul (NH.ch t k) (t - ((k : Int) + 1) + 1) = true) :
    (t_piece_numbers_L0 (.int ((k : Int) + 1)) [.sh (.int t), x1, .ow (((List.range (k + 1)).map (NH.ch t)).map .int), a]).bind g_piece_numbers_L0 = some ([.sh (.int t), x1, .ow (((List.range (k + 2)).map (NH.ch t)).map .int), .sh (.int ((k : Int) + 1))], .nx) := by
  have e1 : (((List.range (k + 1)).map (NH.ch t)).map PyData.int) = (((List.range k).map (NH.ch t)).map .int) ++ [.int (NH.ch t k)] := by rw [List.range_succ, List.map_append, List.map_append]; rfl
  have e2 : (((List.range (k + 2)).map (NH.ch t)).map PyData.int) = (((List.range k).map (NH.ch t)).map .int) ++ [.int (NH.ch t k)] ++ [.int (NH.ch t (k + 1))] := by rw [List.range_succ, List.map_append, List.map_append, e1]; rfl
  have d : okDiv ((k : Int) + 1) = true := okDiv_of (by omega) (by omega)
  have k0 : (0 : Int) < (k : Int) + 1 := by omega
  have n := ch_next t k
  rw [e2, e1]
  have lb : (((List.range k).map (NH.ch t)).map PyData.int).length + 1 < 1000000 := by simp; omega
  simp only [t_piece_numbers_L0, gNameP, List.length_cons, List.length_nil, Nat.zero_add, Nat.reduceAdd, Nat.reduceLT, List.set_cons_succ, List.set_cons_zero, if_true, g_piece_numbers_L0, pFdiv, pSub, Option.bind_some, pExpr, pAppend, List.getElem?_cons_succ, List.getElem?_cons_zero, pBin, pVar, Sl.isBr, Bool.false_and, Bool.false_eq_true, pUn, pC, look, Sl.val, dNeg, Option.map_some, pIx, hot, hot1, if_false, Option.any_some, atI_lst, sc2, iOp, pAdd, Bool.not_false, Bool.true_or, Bool.and_true, pMul, hm, d, n, frz, List.length_append, lb]
theorem pl_num (x1 : Sl) (t : Int) (M : Nat) (hM : M ≤ 1000) (hm : ∀ k, k < M → okMul (NH.ch t k) (t - ((k : Int) + 1) + 1) = true) : ∀ (n k : Nat) (a : Sl), k + n = M → ∃ a', pLoop t_piece_numbers_L0 g_piece_numbers_L0 (rngD ((k : Int) + 1) n) [.sh (.int t), x1, .ow (((List.range (k + 1)).map (NH.ch t)).map .int), a] = some ([.sh (.int t), x1, .ow (((List.range (M + 1)).map (NH.ch t)).map .int), a'], .nx)
  | 0, k, a, h => ⟨a, by rw [show k = M by omega]; rfl⟩
  | n + 1, k, a, h => by
    have s := st_num x1 a t k (by omega) (hm k (by omega))
    obtain ⟨a', e⟩ := pl_num x1 t M hM hm n (k + 1) (.sh (.int ((k : Int) + 1))) (by omega)
    refine ⟨a', ?_⟩
    rw [rngD_succ, pLoop, s]
    rw [show ((k + 1 : Nat) : Int) + 1 = (k : Int) + 1 + 1 by omega] at e
    exact e
theorem pv_num (t : Int) (M : Nat) (hM : M ≤ 1000) (hm : ∀ k, k < M → okMul (NH.ch t k) (t - ((k : Int) + 1) + 1) = true) : fn_piece_numbers [.int t, .int M] = some (.ow (((List.range (M + 1)).map (NH.ch t)).map .int)) := by
  obtain ⟨a, e⟩ := pl_num (.sh (.int M)) t M hM hm M 0 .no (by omega)
  have e0 : (((List.range (0 + 1)).map (NH.ch t)).map PyData.int) = [.int 1] := by
    show [PyData.int (NH.ch t 0)] = _
    rw [NH.ch_zero_right]
  rw [e0] at e
  simp only [Int.natCast_zero, Int.zero_add] at e
  have fl : flatA (((List.range (M + 1)).map (NH.ch t)).map PyData.int) = true := flatA_ints _
  have s2 : pSet 2 (pLst (dCons (pC (.int 1)) dNil)) [.sh (.int t), .sh (.int M), .no, .no] = some ([.sh (.int t), .sh (.int M), .ow [.int 1], .no], .nx) := by
    simp only [pSet, pLst, dCons, pC, frz, dNil, Option.map_some, Option.bind_some, List.length_cons, List.length_nil, Nat.zero_add, Nat.reduceLeDiff, if_true, PL.settle, frzAll, Nat.reduceAdd, Nat.reduceLT, List.set_cons_succ, List.set_cons_zero]
  have h1 : (aCons false (pC (.int 1)) (aCons false (pBin pAdd false (pVar 1) (pC (.int 1))) aNil)) [.sh (.int t), .sh (.int M), .ow [.int 1], .no] = some ([.sh (.int 1), .sh (.int ((M : Int) + 1))], [.sh (.int t), .sh (.int M), .ow [.int 1], .no]) := by
    simp only [aCons, pC, Sl.isBr, Bool.false_and, Bool.false_eq_true, pBin, pVar, pAdd, look, Sl.val, hot, hot1, Option.bind_some, Bool.not_false, Bool.true_or, Bool.and_true, if_false, aNil, Option.map_some, List.getElem?_cons_succ, List.getElem?_cons_zero]
  have hi := rng2_at h1 rfl (by omega)
  rw [show ((M : Int) + 1 - 1).toNat = M by omega] at hi
  have fo := for_nx (tg := t_piece_numbers_L0) (body := g_piece_numbers_L0) hi e
  have g : fn_piece_numbers [.int t, .int M] = (g_piece_numbers [.sh (.int t), .sh (.int M), .no, .no]).bind fun a => match a.2 with | .rt r => outS r | .nx => some (.sh .none) | _ => none := rfl
  rw [g, g_piece_numbers, seq_nx s2, seq_nx fo]
  simp only [pRet, pVar, List.getElem?_cons_succ, List.getElem?_cons_zero, Option.bind_some, List.set_cons_succ, List.set_cons_zero, Option.map_some, outS, Clean, fl, if_true]
theorem chars_w (w : List Nat) : (⟨w.toArray⟩ : Str).cps.toList = w := by simp
theorem at_row {w : List Nat} {i : Nat} (h : i < w.length) : atI (⟨w.toArray⟩ : Str).cps.toList (i : Int) = some (w.getD i 0) := by
  rw [chars_w, atI_nat', List.getElem?_eq_getElem h]
  simp [h]
noncomputable def stq (w : List Nat) (i : Nat) : Nat := NH.lead (w.getD i 0) (w.take (i + 1)).reverse
theorem take_rev {w : List Nat} {i : Nat} (h : i < w.length) : (w.take (i + 1)).reverse = w.getD i 0 :: (w.take i).reverse := by
  rw [List.take_succ_eq_append_getElem h, List.reverse_append]
  simp [h]
theorem stq_zero {w : List Nat} (h : 0 < w.length) : stq w 0 = 1 := by
  unfold stq
  rw [take_rev h]
  simp [NH.lead]
theorem stq_same {w : List Nat} {i : Nat} (h : i + 1 < w.length) (e : w.getD (i + 1) 0 = w.getD i 0) : stq w (i + 1) = stq w i + 1 := by
  unfold stq
  rw [take_rev h]
  simp only [NH.lead, if_true]
  rw [e]
theorem stq_other {w : List Nat} {i : Nat} (h : i + 1 < w.length) (e : w.getD (i + 1) 0 ≠ w.getD i 0) : stq w (i + 1) = 1 := by
  unfold stq
  rw [take_rev h, take_rev (show i < w.length by omega)]
  simp only [NH.lead, if_true]
  rw [if_neg (fun z => e z.symm)]
theorem stq_le (w : List Nat) (i : Nat) (h : i < w.length) : stq w i ≤ w.length := by
  unfold stq
  have := NH.lead_le (w.getD i 0) (w.take (i + 1)).reverse
  rw [List.length_reverse, List.length_take] at this
  omega
theorem sq_last (w : List Nat) (i : Nat) : (((List.range (i + 1)).map fun k => ((stq w k : Nat) : Int)).map PyData.int) = (((List.range i).map fun k => ((stq w k : Nat) : Int)).map PyData.int) ++ [.int (stq w i)] := by
  rw [List.range_succ, List.map_append, List.map_append]
  rfl
theorem st_sq (w : List Nat) (hw : w.length ≤ 1000) (i : Nat) (hi : i < w.length) (a : Sl) : (t_stretches_of_L0 (.int i) [.sh (.str ⟨w.toArray⟩), .ow (((List.range i).map fun k => ((stq w k : Nat) : Int)).map .int), a]).bind g_stretches_of_L0 = some ([.sh (.str ⟨w.toArray⟩), .ow (((List.range (i + 1)).map fun k => ((stq w k : Nat) : Int)).map .int), .sh (.int i)], .nx) := by
  have lw : (⟨w.toArray⟩ : Str).length ≤ 1000000 := by show w.toArray.size ≤ _; simp; omega
  rw [sq_last w i]
  cases i with
  | zero =>
    have z : ¬ ((0 : Int) < 0) := by omega
    rw [stq_zero hi]
    have n1 : ((1 : Nat) : Int) = 1 := rfl
    simp only [t_stretches_of_L0, gNameP, List.range_zero, List.map_nil, List.length_cons, List.length_nil, Nat.zero_add, Nat.reduceAdd, Nat.reduceLT, Int.cast_ofNat_Int, List.set_cons_succ, List.set_cons_zero, if_true, g_stretches_of_L0, pEq, pSub, Option.bind_some, pIfS, tAndP, isB, pBin, pVar, List.getElem?_cons_succ, List.getElem?_cons_zero, Sl.isBr, Bool.false_and, Bool.false_eq_true, pC, sc2, look, Sl.val, dCmp, Cm.i, Cm.s, if_false, z, decide_false, Option.map_some, pIx, hot, hot1, iOp, pExpr, pAppend, pUn, dNeg, pAdd, Bool.not_false, Bool.true_or, Bool.and_true, frz, Option.any_some, List.nil_append, n1]
  | succ i =>
    have z : (0 : Int) < ((i + 1 : Nat) : Int) := by omega
    have e1 := at_row hi
    have e2 := at_row (show i < w.length by omega)
    have e3 : ((i + 1 : Nat) : Int) - 1 = (i : Int) := by omega
    have lb : (((List.range i).map fun k => ((stq w k : Nat) : Int)).map PyData.int).length + 1 < 1000000 := by simp; omega
    rw [sq_last w i]
    by_cases e : w.getD (i + 1) 0 = w.getD i 0
    · rw [stq_same hi e]
      have n1 : ((stq w i + 1 : Nat) : Int) = (stq w i : Int) + 1 := by omega
      simp only [t_stretches_of_L0, gNameP, List.length_cons, List.length_nil, Nat.zero_add, Nat.reduceAdd, Nat.reduceLT, List.set_cons_succ, List.set_cons_zero, if_true, g_stretches_of_L0, pEq, pSub, Option.bind_some, pIfS, tAndP, isB, pBin, pVar, List.getElem?_cons_succ, List.getElem?_cons_zero, Sl.isBr, Bool.false_and, Bool.false_eq_true, pC, sc2, look, Sl.val, dCmp, Cm.i, Cm.s, if_false, z, decide_true, Option.map_some, pIx, hot, hot1, iOp, lw, e1, e, e3, e2, dEq_str, pExpr, pAppend, pUn, dNeg, pAdd, Bool.not_false, Bool.true_or, Bool.and_true, frz, Option.any_some, atI_lst, List.length_append, lb, n1]
    · rw [stq_other hi e]
      have n1 : ((1 : Nat) : Int) = 1 := rfl
      simp only [t_stretches_of_L0, gNameP, List.length_cons, List.length_nil, Nat.zero_add, Nat.reduceAdd, Nat.reduceLT, List.set_cons_succ, List.set_cons_zero, if_true, g_stretches_of_L0, pEq, pSub, Option.bind_some, pIfS, tAndP, isB, pBin, pVar, List.getElem?_cons_succ, List.getElem?_cons_zero, Sl.isBr, Bool.false_and, Bool.false_eq_true, pC, sc2, look, Sl.val, dCmp, Cm.i, Cm.s, if_false, z, decide_true, Option.map_some, pIx, hot, hot1, iOp, lw, e1, e3, e2, dEq_str, str1_eq, e, decide_false, pExpr, pAppend, pUn, dNeg, pAdd, Bool.not_false, Bool.true_or, Bool.and_true, frz, Option.any_some, atI_lst, List.length_append, lb, n1]
theorem pl_sq (w : List Nat) (hw : w.length ≤ 1000) : ∀ (n i : Nat) (a : Sl), i + n = w.length → ∃ a', pLoop t_stretches_of_L0 g_stretches_of_L0 (rngD i n) [.sh (.str ⟨w.toArray⟩), .ow (((List.range i).map fun k => ((stq w k : Nat) : Int)).map .int), a] = some ([.sh (.str ⟨w.toArray⟩), .ow (((List.range w.length).map fun k => ((stq w k : Nat) : Int)).map .int), a'], .nx)
  | 0, i, a, h => ⟨a, by rw [show i = w.length by omega]; rfl⟩
  | n + 1, i, a, h => by
    have s := st_sq w hw i (by omega) a
    obtain ⟨a', e⟩ := pl_sq w hw n (i + 1) (.sh (.int i)) (by omega)
    refine ⟨a', ?_⟩
    rw [rngD_succ, pLoop, s]
    exact e
theorem pv_sq (w : List Nat) (hw : w.length ≤ 1000) : fn_stretches_of [.str ⟨w.toArray⟩] = some (.ow (((List.range w.length).map fun k => ((stq w k : Nat) : Int)).map .int)) := by
  obtain ⟨a, e⟩ := pl_sq w hw w.length 0 .no (by omega)
  simp only [List.range_zero, List.map_nil, Int.natCast_zero] at e
  have fl : flatA (((List.range w.length).map fun k => ((stq w k : Nat) : Int)).map PyData.int) = true := flatA_ints _
  have ln : (⟨w.toArray⟩ : Str).length = w.length := by show w.toArray.size = _; simp
  have lw : w.length ≤ 1000000 := by omega
  have b1 : -1000000 ≤ (w.length : Int) := by omega
  have b2 : (w.length : Int) ≤ 1000000 := by omega
  simp only [fn_stretches_of, fnB, List.length_cons, List.length_nil, Nat.zero_add, runB, g_stretches_of, pSeq, pSet, pLst, dNil, startE, List.map_cons, List.map_nil, Nat.reduceSub, List.replicate, List.cons_append, List.nil_append, Option.bind_some, Nat.reduceLeDiff, if_true, PL.settle, frz, frzAll, Nat.reduceAdd, Nat.reduceLT, List.set_cons_succ, List.set_cons_zero, pFor, iRng1P, aCons, pCaS, pVar, Sl.isBr, Bool.false_and, Bool.false_eq_true, aNil, Option.map_some, if_false, dLen, pRet, List.getElem?_cons_zero, lookA, look, Sl.val, ln, lw, b1, b2, and_self, Int.toNat_natCast, e, List.getElem?_cons_succ, outS, Clean, fl]
noncomputable def kyN (a : Nat) : Key := .inr ⟨#[a]⟩
noncomputable def tpI (p : Int × Int) : PyData := .tuple [.int p.1, .int p.2]
noncomputable abbrev Op := Nat × Int × Int
noncomputable def putO (kvs : List (Key × List PyData)) (o : Op) : List (Key × List PyData) := sdPut kvs (kyN o.1) (tpI o.2)
noncomputable def opsAt (w : List Nat) (m : Nat) : List Op := (List.range' 1 (stq w m)).map fun (j : Nat) => (w.getD m 0, ((m + 1 : Nat) : Int), (j : Int))
noncomputable def opsTo (w : List Nat) : Nat → List Op
  | 0 => []
  | m + 1 => opsAt w m ++ opsTo w m
theorem kyN_inj {a b : Nat} (h : kyN a = kyN b) : a = b := by simpa [kyN] using h
theorem get_put (k k' : Key) (d : PyData) : ∀ kvs : List (Key × List PyData), getDl (sdPut kvs k d) k' = if k' = k then some ((getDl kvs k).getD [] ++ [d]) else getDl kvs k'
  | [] => by
    by_cases e : k' = k
    · subst e; simp [sdPut, getDl]
    · have e' : ¬ k = k' := fun z => e z.symm
      simp [sdPut, getDl, e, e']
  | p :: r => by
    have ih := get_put k k' d r
    by_cases c : p.1 = k
    · by_cases e : k' = k
      · subst e; simp [sdPut, getDl, c]
      · have e' : ¬ k = k' := fun z => e z.symm
        simp [sdPut, getDl, c, e, e']
    · by_cases e : k' = k
      · subst e
        simp only [sdPut, getDl, c, if_false, if_true] at ih ⊢
        rw [ih]
      · simp only [sdPut, getDl, c, if_false, e] at ih ⊢
        rw [ih]
theorem get_ops (a : Nat) : ∀ (os : List Op) (kvs : List (Key × List PyData)), getDl (os.foldl putO kvs) (kyN a) = if ((os.filter fun o => decide (o.1 = a)).map fun o => tpI o.2) = [] then getDl kvs (kyN a) else some ((getDl kvs (kyN a)).getD [] ++ ((os.filter fun o => decide (o.1 = a)).map fun o => tpI o.2))
  | [], kvs => by simp
  | o :: os, kvs => by
    rw [List.foldl_cons, get_ops a os (putO kvs o)]
    unfold putO
    rw [get_put]
    by_cases e : o.1 = a
    · subst e
      simp only [if_true, decide_true, List.filter_cons_of_pos, List.map_cons]
      by_cases z : ((os.filter fun q => decide (q.1 = o.1)).map fun o => tpI o.2) = []
      · simp [z]
      · simp [z]
    · have ne : ¬ kyN a = kyN o.1 := fun z => e (kyN_inj z).symm
      simp only [ne, if_false]
      rw [List.filter_cons_of_neg (by simpa using e)]
theorem ops_cuts (a : Nat) (w : List Nat) : ∀ m, m ≤ w.length → ((opsTo w m).filter fun o => decide (o.1 = a)).map (fun o => o.2) = cutsTo a w m
  | 0, _ => rfl
  | m + 1, h => by
    rw [opsTo, cutsTo, List.filter_append, List.map_append, ops_cuts a w m (by omega)]
    congr 1
    unfold opsAt stq
    have tr := take_rev (show m < w.length by omega)
    by_cases e : w.getD m 0 = a
    · rw [e, List.filter_map, List.filter_eq_self.mpr (by simp), List.map_map]
      rfl
    · rw [List.filter_eq_nil_iff.mpr (by
        intro o ho
        obtain ⟨j, _, rfl⟩ := List.mem_map.mp ho
        simpa using e)]
      rw [tr]
      simp only [NH.lead, e, if_false]
      rfl
theorem get_all (a : Nat) (w : List Nat) : getDl ((opsTo w w.length).foldl putO []) (kyN a) = if cutsTo a w w.length = [] then none else some ((cutsTo a w w.length).map tpI) := by
  rw [get_ops, ← ops_cuts a w w.length (Nat.le_refl _)]
  have e : ((opsTo w w.length).filter fun o => decide (o.1 = a)).map (fun o => tpI o.2) = (((opsTo w w.length).filter fun o => decide (o.1 = a)).map fun o => o.2).map tpI := by rw [List.map_map]; rfl
  rw [e]
  by_cases z : ((opsTo w w.length).filter fun o => decide (o.1 = a)).map (fun o => o.2) = []
  · rw [z]; simp [getDl]
  · rw [if_neg z, if_neg (by simpa using z)]
    simp [getDl]
noncomputable def szOk (N : Nat) (kvs : List (Key × List PyData)) : Prop := kvs.length ≤ N ∧ ∀ p ∈ kvs, p.2.length ≤ N
theorem sz_put {N : Nat} (k : Key) (d : PyData) : ∀ {kvs : List (Key × List PyData)}, szOk N kvs → szOk (N + 1) (sdPut kvs k d)
  | [], h => ⟨by simp [sdPut], fun p hp => by simp [sdPut] at hp; subst hp; simp⟩
  | p :: r, h => by
    unfold sdPut
    split
    · refine ⟨by have := h.1; simp at this ⊢; omega, fun q hq => ?_⟩
      rcases List.mem_cons.mp hq with rfl | hq
      · have := h.2 p (List.mem_cons_self ..); simp; omega
      · have := h.2 q (List.mem_cons_of_mem _ hq); omega
    · have ih : sdPut r k d = sdPut r k d := rfl
      have l : ∀ (r : List (Key × List PyData)), (sdPut r k d).length ≤ r.length + 1 := fun r => by
        induction r with
        | nil => simp [sdPut]
        | cons q r i => unfold sdPut; split <;> simp <;> omega
      have m : ∀ (r : List (Key × List PyData)), (∀ q ∈ r, q.2.length ≤ N) → ∀ q ∈ sdPut r k d, q.2.length ≤ N + 1 := fun r => by
        induction r with
        | nil => intro _ q hq; simp [sdPut] at hq; subst hq; simp
        | cons q r i =>
          intro hr z hz
          unfold sdPut at hz
          split at hz
          · rcases List.mem_cons.mp hz with rfl | hz
            · have := hr q (List.mem_cons_self ..); simp; omega
            · have := hr z (List.mem_cons_of_mem _ hz); omega
          · rcases List.mem_cons.mp hz with rfl | hz
            · have := hr z (List.mem_cons_self ..); omega
            · exact i (fun y hy => hr y (List.mem_cons_of_mem _ hy)) z hz
      refine ⟨by have := h.1; have := l r; simp at this ⊢; simp at *; omega, fun q hq => ?_⟩
      rcases List.mem_cons.mp hq with rfl | hq
      · have := h.2 q (List.mem_cons_self ..); omega
      · exact m r (fun y hy => h.2 y (List.mem_cons_of_mem _ hy)) q hq
theorem sz_ok {N : Nat} {kvs : List (Key × List PyData)} (h : szOk N kvs) (hN : N < 1000000) : sdOk kvs = true := by
  unfold sdOk
  rw [Bool.and_eq_true, decide_eq_true_eq, List.all_eq_true]
  exact ⟨Nat.lt_of_le_of_lt h.1 hN, fun p hp => decide_eq_true (Nat.lt_of_le_of_lt (h.2 p hp) hN)⟩
theorem st_op (x1 a : Sl) (w : List Nat) (hw : w.length ≤ 1000) (kvs : List (Key × List PyData)) (i : Nat) (hi : i < w.length) (j : Int) (hk : sdOk kvs = true) (h1 : frzSl x1 = x1) :
    (t_cuts_by_nail_L1 (.int j) [.sh (.str ⟨w.toArray⟩), x1, .od kvs, .sh (.int i), a]).bind g_cuts_by_nail_L1 = some ([.sh (.str ⟨w.toArray⟩), x1, .od (putO kvs (w.getD i 0, ((i + 1 : Nat) : Int), j)), .sh (.int i), .sh (.int j)], .nx) := by
  have lw : (⟨w.toArray⟩ : Str).length ≤ 1000000 := by show w.toArray.size ≤ _; simp; omega
  have e1 := at_row hi
  have n1 : ((i + 1 : Nat) : Int) = (i : Int) + 1 := by omega
  have tt : t_cuts_by_nail_L1 (.int j) [.sh (.str ⟨w.toArray⟩), x1, .od kvs, .sh (.int i), a] = some [.sh (.str ⟨w.toArray⟩), x1, .od kvs, .sh (.int i), .sh (.int j)] := rfl
  rw [tt, Option.bind_some]
  have fr : frzAll [.sh (.str ⟨w.toArray⟩), x1, .od kvs, .sh (.int i), .sh (.int j)] = [.sh (.str ⟨w.toArray⟩), x1, .no, .sh (.int i), .sh (.int j)] := by
    show [frzSl _, frzSl _, frzSl _, frzSl _, frzSl _] = _
    rw [h1]
    rfl
  have fk : pBin pIx false (pVar 0) (pVar 3) [.sh (.str ⟨w.toArray⟩), x1, .no, .sh (.int i), .sh (.int j)] = some (.sh (.str ⟨#[w.getD i 0]⟩), [.sh (.str ⟨w.toArray⟩), x1, .no, .sh (.int i), .sh (.int j)]) := by
    simp only [pBin, pVar, List.getElem?_cons_zero, Sl.isBr, Bool.false_and, Bool.false_eq_true, pIx, look, Sl.val, hot, hot1, if_false, Option.bind_some, List.getElem?_cons_succ, lw, if_true, e1, Option.map_some]
  have fv : pTup (dCons (pBin pAdd false (pVar 3) (pC (.int 1))) (dCons (pVar 4) dNil)) [.sh (.str ⟨w.toArray⟩), x1, .no, .sh (.int i), .sh (.int j)] = some (.sh (.tuple [.int ((i : Int) + 1), .int j]), [.sh (.str ⟨w.toArray⟩), x1, .no, .sh (.int i), .sh (.int j)]) := by
    simp only [pTup, dCons, pBin, pVar, List.getElem?_cons_succ, List.getElem?_cons_zero, Sl.isBr, Bool.false_and, Bool.false_eq_true, pC, pAdd, look, Sl.val, hot, hot1, Option.bind_some, Bool.not_false, Bool.true_or, Bool.and_true, if_false, frz, dNil, Option.map_some, List.length_cons, List.length_nil, Nat.zero_add, Nat.reduceAdd, Nat.reduceLeDiff, if_true]
  have ko : keyOf (.str ⟨#[w.getD i 0]⟩) = some (kyN (w.getD i 0)) := rfl
  show pSdApp 2 _ _ _ = _
  unfold pSdApp
  simp only [List.getElem?_cons_succ, List.getElem?_cons_zero, fr, fk, fv, Option.bind_some, ko, hk, flat, flatA, Bool.and_true, Bool.and_self, if_true, List.set_cons_succ, List.set_cons_zero, putO, tpI, n1]
theorem pl_op (x1 : Sl) (w : List Nat) (hw : w.length ≤ 1000) (i : Nat) (hi : i < w.length) (h1 : frzSl x1 = x1) : ∀ (r s N : Nat) (kvs : List (Key × List PyData)) (a : Sl), szOk N kvs → N + r < 1000000 → ∃ a' , pLoop t_cuts_by_nail_L1 g_cuts_by_nail_L1 (rngD s r) [.sh (.str ⟨w.toArray⟩), x1, .od kvs, .sh (.int i), a] = some ([.sh (.str ⟨w.toArray⟩), x1, .od (((List.range' s r).map fun (j : Nat) => ((w.getD i 0, ((i + 1 : Nat) : Int), (j : Int)) : Op)).foldl putO kvs), .sh (.int i), a'], .nx) ∧ szOk (N + r) (((List.range' s r).map fun (j : Nat) => ((w.getD i 0, ((i + 1 : Nat) : Int), (j : Int)) : Op)).foldl putO kvs)
  | 0, s, N, kvs, a, hN, _ => ⟨a, rfl, hN⟩
  | r + 1, s, N, kvs, a, hN, hb => by
    have st := st_op x1 a w hw kvs i hi s (sz_ok hN (by omega)) h1
    obtain ⟨a', e, z⟩ := pl_op x1 w hw i hi h1 r (s + 1) (N + 1) (putO kvs (w.getD i 0, ((i + 1 : Nat) : Int), (s : Int))) (.sh (.int s)) (sz_put _ _ hN) (by omega)
    refine ⟨a', ?_, by rw [List.range'_succ, List.map_cons, List.foldl_cons, show N + (r + 1) = N + 1 + r by omega]; exact z⟩
    rw [rngD_succ, pLoop, st, List.range'_succ, List.map_cons, List.foldl_cons]
    rw [show ((s + 1 : Nat) : Int) = (s : Int) + 1 by omega] at e
    exact e
theorem st_place (w : List Nat) (hw : w.length ≤ 900) (i : Nat) (hi : i < w.length) (N : Nat) (kvs : List (Key × List PyData)) (a b : Sl) (hN : szOk N kvs) (hb : N + 1000 < 1000000) :
    ∃ b', (t_cuts_by_nail_L0 (.int i) [.sh (.str ⟨w.toArray⟩), .sh (.list (((List.range w.length).map fun k => ((stq w k : Nat) : Int)).map .int)), .od kvs, a, b]).bind g_cuts_by_nail_L0 = some ([.sh (.str ⟨w.toArray⟩), .sh (.list (((List.range w.length).map fun k => ((stq w k : Nat) : Int)).map .int)), .od ((opsAt w i).foldl putO kvs), .sh (.int i), b'], .nx) ∧ szOk (N + 1000) ((opsAt w i).foldl putO kvs) := by
  have sl := stq_le w i hi
  have tt : t_cuts_by_nail_L0 (.int i) [.sh (.str ⟨w.toArray⟩), .sh (.list (((List.range w.length).map fun k => ((stq w k : Nat) : Int)).map .int)), .od kvs, a, b] = some [.sh (.str ⟨w.toArray⟩), .sh (.list (((List.range w.length).map fun k => ((stq w k : Nat) : Int)).map .int)), .od kvs, .sh (.int i), b] := rfl
  obtain ⟨b', e, z⟩ := pl_op (.sh (.list (((List.range w.length).map fun k => ((stq w k : Nat) : Int)).map .int))) w (by omega) i hi rfl (stq w i) 1 N kvs b hN (by omega)
  have at1 : atI (((List.range w.length).map fun k => ((stq w k : Nat) : Int)).map PyData.int) (i : Int) = some (.int (stq w i)) := by
    rw [atI_nat', List.getElem?_map, List.getElem?_map, List.getElem?_range hi]
    rfl
  have h1 : (aCons false (pC (.int 1)) (aCons false (pBin pAdd false (pBin pIx false (pVar 1) (pVar 3)) (pC (.int 1))) aNil)) [.sh (.str ⟨w.toArray⟩), .sh (.list (((List.range w.length).map fun k => ((stq w k : Nat) : Int)).map .int)), .od kvs, .sh (.int i), b] = some ([.sh (.int 1), .sh (.int ((stq w i : Int) + 1))], [.sh (.str ⟨w.toArray⟩), .sh (.list (((List.range w.length).map fun k => ((stq w k : Nat) : Int)).map .int)), .od kvs, .sh (.int i), b]) := by
    simp only [aCons, pC, Sl.isBr, Bool.false_and, Bool.false_eq_true, pBin, pVar, pIx, look, Sl.val, hot, hot1, if_false, pAdd, Option.bind_some, Bool.not_false, Bool.true_or, Bool.and_true, aNil, Option.map_some, List.getElem?_cons_succ, List.getElem?_cons_zero, at1]
  have hi2 := rng2_at h1 rfl (by omega)
  rw [show ((stq w i : Int) + 1 - 1).toNat = stq w i by omega] at hi2
  refine ⟨b', ?_, ?_⟩
  · rw [tt, Option.bind_some, g_cuts_by_nail_L0]
    exact for_nx hi2 e
  · refine ⟨Nat.le_trans z.1 (by omega), fun p hp => Nat.le_trans (z.2 p hp) (by omega)⟩
theorem pl_place (w : List Nat) (hw : w.length ≤ 900) : ∀ (m N : Nat) (kvs : List (Key × List PyData)) (a b : Sl), m ≤ w.length → szOk N kvs → N + 1000 * m < 1000000 → ∃ a' b', pLoop t_cuts_by_nail_L0 g_cuts_by_nail_L0 (rngC ((m : Int) - 1) (-1) m) [.sh (.str ⟨w.toArray⟩), .sh (.list (((List.range w.length).map fun k => ((stq w k : Nat) : Int)).map .int)), .od kvs, a, b] = some ([.sh (.str ⟨w.toArray⟩), .sh (.list (((List.range w.length).map fun k => ((stq w k : Nat) : Int)).map .int)), .od ((opsTo w m).foldl putO kvs), a', b'], .nx)
  | 0, N, kvs, a, b, _, _, _ => ⟨a, b, rfl⟩
  | m + 1, N, kvs, a, b, h, hN, hb => by
    obtain ⟨b', e, z⟩ := st_place w hw m (by omega) N kvs a b hN (by omega)
    obtain ⟨a2, b2, e2⟩ := pl_place w hw m (N + 1000) ((opsAt w m).foldl putO kvs) (.sh (.int m)) b' (by omega) z (by omega)
    refine ⟨a2, b2, ?_⟩
    rw [show ((m + 1 : Nat) : Int) - 1 = (m : Int) by omega, rngC_down, pLoop, e, opsTo, List.foldl_append]
    exact e2
theorem ops_flat (w : List Nat) (os : List Op) : ∀ kvs : List (Key × List PyData), (∀ p ∈ kvs, flatA p.2 = true) → ∀ p ∈ os.foldl putO kvs, flatA p.2 = true := by
  have one : ∀ (k : Key) (q : Int × Int) (kvs : List (Key × List PyData)), (∀ p ∈ kvs, flatA p.2 = true) → ∀ p ∈ sdPut kvs k (tpI q), flatA p.2 = true := fun k q kvs => by
    induction kvs with
    | nil => intro _ p hp; simp [sdPut] at hp; subst hp; rfl
    | cons r kvs ih =>
      intro h p hp
      unfold sdPut at hp
      split at hp
      · rcases List.mem_cons.mp hp with rfl | hp
        · show flatA (r.2 ++ [tpI q]) = true
          rw [flatA_append, h r (List.mem_cons_self ..)]
          rfl
        · exact h p (List.mem_cons_of_mem _ hp)
      · rcases List.mem_cons.mp hp with rfl | hp
        · exact h p (List.mem_cons_self ..)
        · exact ih (fun y hy => h y (List.mem_cons_of_mem _ hy)) p hp
  induction os with
  | nil => intro kvs h; exact h
  | cons o os ih => intro kvs h; exact ih _ (one _ _ kvs h)
theorem pv_cuts (w : List Nat) (hw : w.length ≤ 900) : fn_cuts_by_nail [.str ⟨w.toArray⟩, .list (((List.range w.length).map fun k => ((stq w k : Nat) : Int)).map .int)] = some (.od ((opsTo w w.length).foldl putO [])) := by
  obtain ⟨a, b, e⟩ := pl_place w hw w.length 0 [] .no .no (Nat.le_refl _) ⟨by simp, fun p hp => by cases hp⟩ (by omega)
  have ln : (⟨w.toArray⟩ : Str).length = w.length := by show w.toArray.size = _; simp
  have lw : w.length ≤ 1000000 := by omega
  have s2 : pSet 2 pNewD [.sh (.str ⟨w.toArray⟩), .sh (.list (((List.range w.length).map fun k => ((stq w k : Nat) : Int)).map .int)), .no, .no, .no] = some ([.sh (.str ⟨w.toArray⟩), .sh (.list (((List.range w.length).map fun k => ((stq w k : Nat) : Int)).map .int)), .od [], .no, .no], .nx) := rfl
  have h1 : (aCons false (pBin pSub false (pCaS dLen (aCons false (pVar 0) aNil)) (pC (.int 1))) (aCons false (pUn dNeg (pC (.int 1))) (aCons false (pUn dNeg (pC (.int 1))) aNil))) [.sh (.str ⟨w.toArray⟩), .sh (.list (((List.range w.length).map fun k => ((stq w k : Nat) : Int)).map .int)), .od [], .no, .no] = some ([.sh (.int ((w.length : Int) - 1)), .sh (.int (-1)), .sh (.int (-1))], [.sh (.str ⟨w.toArray⟩), .sh (.list (((List.range w.length).map fun k => ((stq w k : Nat) : Int)).map .int)), .od [], .no, .no]) := by
    simp only [aCons, pBin, pCaS, pVar, List.getElem?_cons_zero, Sl.isBr, Bool.false_and, Bool.false_eq_true, aNil, Option.map_some, if_false, Option.bind_some, dLen, lookA, look, Sl.val, ln, lw, if_true, pC, pSub, sc2, iOp, pUn, dNeg]
  have hi := rng3_at h1 rfl ⟨⟨by omega, by omega⟩, ⟨by omega, by omega⟩, ⟨by omega, by omega⟩, by decide⟩
  rw [rngN_down, show ((w.length : Int) - 1 - -1).toNat = w.length by omega] at hi
  have fo := for_nx (tg := t_cuts_by_nail_L0) (body := g_cuts_by_nail_L0) hi e
  have g : fn_cuts_by_nail [.str ⟨w.toArray⟩, .list (((List.range w.length).map fun k => ((stq w k : Nat) : Int)).map .int)] = (g_cuts_by_nail [.sh (.str ⟨w.toArray⟩), .sh (.list (((List.range w.length).map fun k => ((stq w k : Nat) : Int)).map .int)), .no, .no, .no]).bind fun a => match a.2 with | .rt r => outS r | .nx => some (.sh .none) | _ => none := rfl
  have fl : ((opsTo w w.length).foldl putO []).all (fun p => flatA p.2) = true := by
    rw [List.all_eq_true]
    exact ops_flat w _ [] fun p hp => by cases hp
  rw [g, g_cuts_by_nail, seq_nx s2, seq_nx fo]
  show outS (.od ((opsTo w w.length).foldl putO [])) = _
  unfold outS
  rw [if_pos (show Clean (.od ((opsTo w w.length).foldl putO [])) = true from fl)]
theorem pl_short_form (x0 : Sl) : ∀ (c : List Pc) (st : List Pc) (a b d : Sl), st.length + c.length ≤ 100000 → ∃ a' b' d', pLoop t_short_form_L0 g_short_form_L0 (c.map pcD) [x0, .ow (st.reverse.map pcD), a, b, d] = some ([x0, .ow ((c.foldl NH.stp st).reverse.map pcD), a', b', d'], .nx)
  | [], st, a, b, d, _ => ⟨a, b, d, rfl⟩
  | p :: c, st, a, b, d, h => by
    have step : ∃ a' b' d', (t_short_form_L0 (pcD p) [x0, .ow (st.reverse.map pcD), a, b, d]).bind g_short_form_L0 = some ([x0, .ow ((NH.stp st p).reverse.map pcD), a', b', d'], .nx) := by
      cases st with
      | nil =>
        by_cases z : p.2 = 0
        · simp only [t_short_form_L0, gTupP, pcD, z, List.length_cons, List.length_nil, Nat.zero_add, Nat.reduceAdd, gConsP, gNameP, List.reverse_nil, List.map_nil, Nat.reduceLT, List.set_cons_succ, List.set_cons_zero, if_true, Option.bind_some, gNilP, List.isEmpty_nil, g_short_form_L0, pEq, pNe, pSeq, pSet, pVar, List.getElem?_cons_succ, List.getElem?_cons_zero, PL.settle, frz, frzAll, pIfS, tAndP, pTru, Sl.val, isB, pBin, Sl.isBr, Bool.false_and, Bool.false_eq_true, pUn, pC, look, dNeg, Option.map_some, pIx, hot, hot1, if_false, sc2, pPop, pAdd, pNext, pExpr, pAppend, pTup, dCons, dNil, dTru, Bool.not_true, Option.any_some, Nat.reduceSub, dEq_int, decide_true, Nat.reduceLeDiff, List.nil_append, NH.stp]
          exact ⟨_, _, _, rfl⟩
        · simp only [t_short_form_L0, gTupP, pcD, List.length_cons, List.length_nil, Nat.zero_add, Nat.reduceAdd, gConsP, gNameP, List.reverse_nil, List.map_nil, Nat.reduceLT, List.set_cons_succ, List.set_cons_zero, if_true, Option.bind_some, gNilP, List.isEmpty_nil, g_short_form_L0, pEq, pNe, pSeq, pSet, pVar, List.getElem?_cons_succ, List.getElem?_cons_zero, PL.settle, frz, frzAll, pIfS, tAndP, pTru, Sl.val, isB, pBin, Sl.isBr, Bool.false_and, Bool.false_eq_true, pUn, pC, look, dNeg, Option.map_some, pIx, hot, hot1, if_false, sc2, pPop, pAdd, pNext, pExpr, pAppend, pTup, dCons, dNil, dTru, Bool.not_true, Option.any_some, Nat.reduceSub, dEq_int, z, decide_false, Bool.not_false, Nat.reduceLeDiff, List.nil_append, NH.stp]
          exact ⟨_, _, _, rfl⟩
      | cons q st =>
        have lb : st.length < 1000000 ∧ st.length + 1 < 1000000 := by simp at h; omega
        by_cases e : q.1 = p.1
        · by_cases z : q.2 + p.2 = 0
          · simp only [t_short_form_L0, gTupP, gConsP, gNameP, List.reverse_cons, List.map_append, List.map_cons, List.map_nil, List.length_cons, List.length_nil, Nat.zero_add, Nat.reduceAdd, Nat.reduceLT, List.set_cons_succ, List.set_cons_zero, if_true, Option.bind_some, gNilP, g_short_form_L0, pEq, pNe, NH.stp]
            simp only [pcD, List.length_cons, List.length_nil, Nat.zero_add, Nat.reduceAdd, List.isEmpty_nil, e, if_true, Option.bind_some, pSeq, pSet, pVar, List.getElem?_cons_succ, List.getElem?_cons_zero, PL.settle, frz, frzAll, Nat.reduceLT, List.set_cons_succ, List.set_cons_zero, pIfS, tAndP, pTru, Sl.val, isB, pBin, Sl.isBr, Bool.false_and, Bool.false_eq_true, pUn, pC, look, dNeg, Option.map_some, pIx, hot, hot1, if_false, sc2, pPop, pAdd, pNext, pExpr, pAppend, pTup, dCons, dNil, dTru, emp_lst, Bool.not_false, Option.any_some, atI_lst, atI_0, dEq_str, decide_true, List.dropLast_concat, get_lst, atI_1, Bool.true_or, Bool.and_true, z, dEq_int, Bool.not_true, Nat.reduceLeDiff]
            simp [pcD]
          · simp only [t_short_form_L0, gTupP, gConsP, gNameP, List.reverse_cons, List.map_append, List.map_cons, List.map_nil, List.length_cons, List.length_nil, Nat.zero_add, Nat.reduceAdd, Nat.reduceLT, List.set_cons_succ, List.set_cons_zero, if_true, Option.bind_some, gNilP, g_short_form_L0, pEq, pNe, NH.stp]
            simp only [pcD, List.length_cons, List.length_nil, Nat.zero_add, Nat.reduceAdd, List.isEmpty_nil, e, if_true, Option.bind_some, pSeq, pSet, pVar, List.getElem?_cons_succ, List.getElem?_cons_zero, PL.settle, frz, frzAll, Nat.reduceLT, List.set_cons_succ, List.set_cons_zero, pIfS, tAndP, pTru, Sl.val, isB, pBin, Sl.isBr, Bool.false_and, Bool.false_eq_true, pUn, pC, look, dNeg, Option.map_some, pIx, hot, hot1, if_false, sc2, pPop, pAdd, pNext, pExpr, pAppend, pTup, dCons, dNil, dTru, emp_lst, Bool.not_false, Option.any_some, atI_lst, atI_0, dEq_str, decide_true, List.dropLast_concat, get_lst, atI_1, Bool.true_or, Bool.and_true, dEq_int, z, decide_false, Nat.reduceLeDiff, List.length_map, List.length_reverse, lb]
            simp [pcD]
        · by_cases z : p.2 = 0
          · simp only [t_short_form_L0, gTupP, gConsP, gNameP, List.reverse_cons, List.map_append, List.map_cons, List.map_nil, List.length_cons, List.length_nil, Nat.zero_add, Nat.reduceAdd, Nat.reduceLT, List.set_cons_succ, List.set_cons_zero, if_true, Option.bind_some, gNilP, g_short_form_L0, pEq, pNe, NH.stp]
            simp only [pcD, z, List.length_cons, List.length_nil, Nat.zero_add, Nat.reduceAdd, List.isEmpty_nil, if_true, Option.bind_some, pSeq, pSet, pVar, List.getElem?_cons_succ, List.getElem?_cons_zero, PL.settle, frz, frzAll, Nat.reduceLT, List.set_cons_succ, List.set_cons_zero, pIfS, tAndP, pTru, Sl.val, isB, pBin, Sl.isBr, Bool.false_and, Bool.false_eq_true, pUn, pC, look, dNeg, Option.map_some, pIx, hot, hot1, if_false, sc2, pPop, pAdd, pNext, pExpr, pAppend, pTup, dCons, dNil, dTru, emp_lst, Bool.not_false, Option.any_some, atI_lst, atI_0, dEq_str, str1_eq, e, decide_false, List.dropLast_concat, get_lst, atI_1, Bool.true_or, Bool.and_true, dEq_int, decide_true, Bool.not_true, Nat.reduceLeDiff]
            simp [pcD]
          · simp only [t_short_form_L0, gTupP, gConsP, gNameP, List.reverse_cons, List.map_append, List.map_cons, List.map_nil, List.length_cons, List.length_nil, Nat.zero_add, Nat.reduceAdd, Nat.reduceLT, List.set_cons_succ, List.set_cons_zero, if_true, Option.bind_some, gNilP, g_short_form_L0, pEq, pNe, NH.stp]
            simp only [pcD, List.length_cons, List.length_nil, Nat.zero_add, Nat.reduceAdd, List.isEmpty_nil, if_true, Option.bind_some, pSeq, pSet, pVar, List.getElem?_cons_succ, List.getElem?_cons_zero, PL.settle, frz, frzAll, Nat.reduceLT, List.set_cons_succ, List.set_cons_zero, pIfS, tAndP, pTru, Sl.val, isB, pBin, Sl.isBr, Bool.false_and, Bool.false_eq_true, pUn, pC, look, dNeg, Option.map_some, pIx, hot, hot1, if_false, sc2, pPop, pAdd, pNext, pExpr, pAppend, pTup, dCons, dNil, dTru, emp_lst, Bool.not_false, Option.any_some, atI_lst, atI_0, dEq_str, str1_eq, e, decide_false, List.dropLast_concat, List.length_append, List.length_map, List.length_reverse, dEq_int, z, Nat.reduceLeDiff, lb]
            simp [pcD]
    obtain ⟨a', b', d', e⟩ := step
    have ih := pl_short_form x0 c (NH.stp st p) a' b' d' (by have := NH.stp_len st p; simp at h; omega)
    obtain ⟨a2, b2, d2, e2⟩ := ih
    refine ⟨a2, b2, d2, ?_⟩
    rw [List.map_cons, pLoop, e]
    exact e2
theorem pv_short_form (c : List Pc) (h : c.length ≤ 100000) : fn_short_form [.list (c.map pcD)] = some (.ow ((NH.short c).map pcD)) := by
  obtain ⟨a, b, d, e⟩ := pl_short_form (.sh (.list (c.map pcD))) c [] .no .no .no (by simpa using h)
  simp only [List.reverse_nil, List.map_nil] at e
  simp only [fn_short_form, fnB, List.length_cons, List.length_nil, Nat.zero_add, runB, g_short_form, pSeq, pSet, pLst, dNil, startE, List.map_cons, List.map_nil, Nat.reduceSub, List.replicate, List.cons_append, List.nil_append, Option.bind_some, Nat.reduceLeDiff, if_true, PL.settle, frz, frzAll, Nat.reduceAdd, Nat.reduceLT, List.set_cons_succ, List.set_cons_zero, pFor, iAny, pVar, pRet, List.getElem?_cons_zero, e, List.getElem?_cons_succ, Option.map_some, outS, Clean, flatA_pc, Option.some.injEq]
  rfl
theorem pairs_tp : ∀ cs : List (Int × Int), pairsI (cs.map tpI) = some cs
  | [] => rfl
  | p :: cs => by
    show (pairsI (cs.map tpI)).map (fun ps => (p.1, p.2) :: ps) = _
    rw [pairs_tp cs]
    rfl
theorem ints_i (xs : List Int) : intsL (xs.map PyData.int) = some xs := by
  induction xs with
  | nil => rfl
  | cons n ns ih => simp only [List.map_cons, intsL, ih, Option.map_some]
theorem lead_stq (a : Nat) (w : List Nat) {i : Nat} (h : i < w.length) : NH.lead a (w.take (i + 1)).reverse ≤ stq w i := by
  unfold stq
  rw [take_rev h]
  simp only [NH.lead, if_true]
  split
  · rename_i e; subst e; exact Nat.le_refl _
  · omega
theorem top_sq (w : List Nat) : ∃ M : Nat, NhMaxD.topD ((List.range w.length).map fun k => ((stq w k : Nat) : Int)) 0 = (M : Int) ∧ M ≤ w.length ∧ ∀ (a k : Nat), k ≤ w.length → NH.lead a (w.take k).reverse ≤ M := by
  have key : ∀ (xs : List Int) (L : Nat), (∀ x ∈ xs, 0 ≤ x ∧ x ≤ (L : Int)) → ∃ M : Nat, NhMaxD.topD xs 0 = (M : Int) ∧ M ≤ L ∧ ∀ x ∈ xs, x ≤ (M : Int) := fun xs L h => by
    cases xs with
    | nil => exact ⟨0, rfl, by omega, fun x hx => by cases hx⟩
    | cons n r =>
      obtain ⟨h1, h2, h3⟩ := foldl_max r n
      have b := h n (List.mem_cons_self ..)
      have b2 : 0 ≤ r.foldl max n ∧ r.foldl max n ≤ (L : Int) := by
        rcases h3 with z | z
        · rw [z]; exact b
        · exact h _ (List.mem_cons_of_mem _ z)
      refine ⟨(r.foldl max n).toNat, ?_, by omega, fun x hx => ?_⟩
      · show r.foldl max n = _
        omega
      · rw [Int.toNat_of_nonneg b2.1]
        rcases List.mem_cons.mp hx with z | z
        · rw [z]; exact h1
        · exact h2 x z
  obtain ⟨M, e, l, m⟩ := key ((List.range w.length).map fun k => ((stq w k : Nat) : Int)) w.length fun x hx => by
    obtain ⟨k, hk, rfl⟩ := List.mem_map.mp hx
    have := stq_le w k (List.mem_range.mp hk)
    omega
  refine ⟨M, e, l, fun a k hk => ?_⟩
  cases k with
  | zero => simp [NH.lead]
  | succ i =>
    have h1 := lead_stq a w (show i < w.length by omega)
    have h2 := m _ (List.mem_map.mpr ⟨i, List.mem_range.mpr (show i < w.length by omega), rfl⟩)
    omega
theorem beg_nil (w : List Nat) : (PyData.int 1 :: List.replicate w.length (PyData.int 0)) = ((List.range (w.length + 1)).map (NH.beg w [])).map PyData.int := by
  rw [List.range_succ_eq_map, List.map_cons, List.map_cons, List.map_map, List.map_map]
  have h0 : NH.beg w [] 0 = 1 := by simp [NH.beg, NH.times_nil, NH.eps]
  rw [h0]
  congr 1
  refine List.ext_getElem? fun i => ?_
  by_cases h : i < w.length
  · rw [List.getElem?_map, List.getElem?_range h, List.getElem?_eq_getElem (by simpa using h)]
    simp only [List.getElem_replicate, Option.map_some, Function.comp]
    cases w with
    | nil => simp at h
    | cons a w => simp [NH.beg, NH.times_nil, NH.eps]
  · rw [List.getElem?_eq_none (by simp; omega), List.getElem?_eq_none (by simp; omega)]
noncomputable def Fits (w : List Nat) (c : List Pc) : Prop := (NH.sumT c + w.length * c.length + w.length + 1) ^ w.length < 2 ^ 20000 ∧ NH.sumT c + w.length * c.length + w.length + 1 < 2 ^ 20000
theorem fit_pow {w : List Nat} {c : List Pc} (h : Fits w c) {b n : Nat} (hb : b ≤ NH.sumT c + w.length * c.length + w.length + 1) (hn : n ≤ w.length) : b ^ n < 2 ^ 20000 :=
  Nat.lt_of_le_of_lt (Nat.le_trans (Nat.pow_le_pow_left hb n) (Nat.pow_le_pow_right (by omega) hn)) h.1
theorem fit_beg {w : List Nat} {c c1 : List Pc} (h : Fits w c) (hs : NH.sumT c1 ≤ NH.sumT c) (hl : c1.length ≤ c.length) (k : Nat) : (NH.beg w c1 k).natAbs < 2 ^ 20000 := by
  have l : (w.take k).length ≤ w.length := by simp; omega
  have h1 := NH.times_le (L := w.length) c1 (w.take k) l
  have m : w.length * c1.length ≤ w.length * c.length := Nat.mul_le_mul_left _ hl
  exact Nat.lt_of_le_of_lt h1 (fit_pow h (by omega) l)
theorem fit_ch {w : List Nat} {c : List Pc} (h : Fits w c) {t : Int} (ht : t.natAbs ≤ NH.sumT c) {j : Nat} (hj : j ≤ w.length) : (NH.ch t j).natAbs < 2 ^ 20000 :=
  Nat.lt_of_le_of_lt (NH.ch_le t j) (fit_pow h (by omega) hj)
theorem call_at {c : List PyData → Option Sl} {g : PAv} {E E1 : List Sl} {ss : List Sl} {ds : List PyData} {r : Sl} (h : g E = some (ss, E1)) (hl : lookA E1 ss = some ds) (hc : c ds = some r) : pCall c g E = some (r, E1) := by
  unfold pCall
  rw [h, Option.bind_some]
  show (lookA E1 ss).bind _ = _
  rw [hl, Option.bind_some, hc]
  rfl
theorem st_times (x1 : Sl) (w : List Nat) (hw : w.length ≤ 900) (c : List Pc) (hf : Fits w c) (M : Nat) (hM : M ≤ w.length) (hld : ∀ (a k : Nat), k ≤ w.length → NH.lead a (w.take k).reverse ≤ M) (s3 : Sl) (c1 : List Pc) (p : Pc) (hs : NH.sumT c1 ≤ NH.sumT c) (hl : c1.length ≤ c.length) (hp : p.2.natAbs ≤ NH.sumT c) (a b : Sl) :
    (t_times_in_L0 (pcD p) [.sh (.str ⟨w.toArray⟩), x1, .ow (((List.range (w.length + 1)).map (NH.beg w c1)).map .int), s3, .od ((opsTo w w.length).foldl putO []), .sh (.int M), a, b]).bind g_times_in_L0 = some ([.sh (.str ⟨w.toArray⟩), x1, .ow (((List.range (w.length + 1)).map (NH.beg w (c1 ++ [p]))).map .int), s3, .od ((opsTo w w.length).foldl putO []), .sh (.int M), .sh (.str ⟨#[p.1]⟩), .sh (.int p.2)], .nx) := by
  have tt : ∀ n0 cu, t_times_in_L0 (pcD p) [.sh (.str ⟨w.toArray⟩), x1, n0, s3, cu, .sh (.int M), a, b] = some [.sh (.str ⟨w.toArray⟩), x1, n0, s3, cu, .sh (.int M), .sh (.str ⟨#[p.1]⟩), .sh (.int p.2)] := fun n0 cu => by
    simp only [t_times_in_L0, gTupP, pcD, List.length_cons, List.length_nil, Nat.zero_add, Nat.reduceAdd, gConsP, gNameP, Nat.reduceLT, List.set_cons_succ, List.set_cons_zero, if_true, Option.bind_some, gNilP, List.isEmpty_nil]
  rw [tt, Option.bind_some]
  have ga := get_all p.1 w
  have pick := add_cuts ((List.range (M + 1)).map (NH.ch p.2)) w c1 p M (hld p.1) (fun j hj => atI_L _ (by omega)) (fun j k hj hk => okMul_b (fit_ch hf hp (by omega)) (fit_beg hf hs hl k)) w.length (Nat.le_refl _)
  have same : ((List.range (w.length + 1)).map fun i => if i ≤ w.length then NH.beg w c1 i else NH.beg w (c1 ++ [p]) i) = (List.range (w.length + 1)).map (NH.beg w c1) := List.map_congr_left fun i hi => by
    rw [if_pos (by have := List.mem_range.mp hi; omega)]
  rw [same] at pick
  have tin : ∀ E : List Sl, E[6]? = some (.sh (.str ⟨#[p.1]⟩)) → E[4]? = some (.od ((opsTo w w.length).foldl putO [])) → pInD 4 (pVar 6) E = some ((getDl ((opsTo w w.length).foldl putO []) (kyN p.1)).isSome, E) := fun E h6 h4 => by
    unfold pInD pVar
    simp only [h6, Option.map_some, Option.bind_some, look, Sl.val, h4]
    rfl
  have nm := pv_num p.2 M (by omega) fun k hk => okMul_b (fit_ch hf hp (by omega)) (Nat.lt_of_le_of_lt (show (p.2 - ((k : Int) + 1) + 1).natAbs ≤ NH.sumT c + w.length * c.length + w.length + 1 by omega) hf.2)
  by_cases z : cutsTo p.1 w w.length = []
  · rw [if_pos z] at ga
    rw [z, addAll] at pick
    rw [g_times_in_L0]
    refine if_no (E1 := [.sh (.str ⟨w.toArray⟩), x1, .ow (((List.range (w.length + 1)).map (NH.beg w c1)).map .int), s3, .od ((opsTo w w.length).foldl putO []), .sh (.int M), .sh (.str ⟨#[p.1]⟩), .sh (.int p.2)]) ?_ ?_
    · rw [tin _ rfl rfl, ga]
      rfl
    · rw [Option.some.inj pick]
      rfl
  · rw [if_neg z] at ga
    rw [g_times_in_L0]
    refine if_yes (E1 := [.sh (.str ⟨w.toArray⟩), x1, .ow (((List.range (w.length + 1)).map (NH.beg w c1)).map .int), s3, .od ((opsTo w w.length).foldl putO []), .sh (.int M), .sh (.str ⟨#[p.1]⟩), .sh (.int p.2)]) ?_ ?_
    · rw [tin _ rfl rfl, ga]
      rfl
    · have f3 : ∀ q0 q1 q2 q3 q4 : Sl, pCall fn_piece_numbers (aCons false (pVar 7) (aCons false (pVar 5) aNil)) [q0, q1, q2, q3, q4, .sh (.int M), .sh (.str ⟨#[p.1]⟩), .sh (.int p.2)] = some (.ow (((List.range (M + 1)).map (NH.ch p.2)).map .int), [q0, q1, q2, q3, q4, .sh (.int M), .sh (.str ⟨#[p.1]⟩), .sh (.int p.2)]) := fun q0 q1 q2 q3 q4 => call_at rfl rfl nm
      have fk : ∀ q0 q1 q2 q3 q4 : Sl, pVar 6 [q0, q1, q2, q3, q4, .sh (.int M), .sh (.str ⟨#[p.1]⟩), .sh (.int p.2)] = some (.sh (.str ⟨#[p.1]⟩), [q0, q1, q2, q3, q4, .sh (.int M), .sh (.str ⟨#[p.1]⟩), .sh (.int p.2)]) := fun q0 q1 q2 q3 q4 => rfl
      have ko : keyOf (.str ⟨#[p.1]⟩) = some (kyN p.1) := rfl
      have fr : frzAll [.sh (.str ⟨w.toArray⟩), x1, .ow (((List.range (w.length + 1)).map (NH.beg w c1)).map .int), s3, .od ((opsTo w w.length).foldl putO []), .sh (.int M), .sh (.str ⟨#[p.1]⟩), .sh (.int p.2)] = [frzSl (.sh (.str ⟨w.toArray⟩)), frzSl x1, frzSl (.ow (((List.range (w.length + 1)).map (NH.beg w c1)).map .int)), frzSl s3, frzSl (.od ((opsTo w w.length).foldl putO [])), .sh (.int M), .sh (.str ⟨#[p.1]⟩), .sh (.int p.2)] := rfl
      have fn : fnAdd (((List.range (w.length + 1)).map (NH.beg w c1)).map .int) [.list ((cutsTo p.1 w w.length).map tpI), .list (((List.range (M + 1)).map (NH.ch p.2)).map .int)] = some (((List.range (w.length + 1)).map (NH.beg w (c1 ++ [p]))).map .int) := by
        unfold fnAdd
        simp only [ints_i, pairs_tp, Option.bind_some, pick, Option.map_some]
      unfold pIO3
      simp only [List.getElem?_cons_succ, List.getElem?_cons_zero, fr, fk, ko, f3, ga, Option.bind_some, flatA_ints, if_true, fn, Option.map_some, List.set_cons_succ, List.set_cons_zero]
theorem pl_times (x1 : Sl) (w : List Nat) (hw : w.length ≤ 900) (c : List Pc) (hf : Fits w c) (M : Nat) (hM : M ≤ w.length) (hld : ∀ (a k : Nat), k ≤ w.length → NH.lead a (w.take k).reverse ≤ M) (s3 : Sl) : ∀ (c2 c1 : List Pc) (a b : Sl), c1 ++ c2 = c → ∃ a' b',
    pLoop t_times_in_L0 g_times_in_L0 (c2.map pcD) [.sh (.str ⟨w.toArray⟩), x1, .ow (((List.range (w.length + 1)).map (NH.beg w c1)).map .int), s3, .od ((opsTo w w.length).foldl putO []), .sh (.int M), a, b] = some ([.sh (.str ⟨w.toArray⟩), x1, .ow (((List.range (w.length + 1)).map (NH.beg w c)).map .int), s3, .od ((opsTo w w.length).foldl putO []), .sh (.int M), a', b'], .nx)
  | [], c1, a, b, h => ⟨a, b, by rw [List.append_nil] at h; rw [h]; rfl⟩
  | p :: c2, c1, a, b, h => by
    have hs : NH.sumT c1 ≤ NH.sumT c := by rw [← h, NH.sumT_append]; omega
    have hl : c1.length ≤ c.length := by rw [← h, List.length_append]; omega
    have s := st_times x1 w hw c hf M hM hld s3 c1 p hs hl (NH.sumT_mem (by rw [← h]; simp)) a b
    obtain ⟨a', b', e⟩ := pl_times x1 w hw c hf M hM hld s3 c2 (c1 ++ [p]) (.sh (.str ⟨#[p.1]⟩)) (.sh (.int p.2)) (by rw [List.append_assoc]; exact h)
    refine ⟨a', b', ?_⟩
    rw [List.map_cons, pLoop, s]
    exact e
theorem fits_short {w : List Nat} {c : List Pc} (h : Fits w c) : Fits w (NH.short c) := by
  have h1 := NH.sumT_short c
  have h2 : w.length * (NH.short c).length ≤ w.length * c.length := Nat.mul_le_mul_left _ (NH.short_len c)
  exact ⟨Nat.lt_of_le_of_lt (Nat.pow_le_pow_left (by omega) _) h.1, Nat.lt_of_le_of_lt (by omega) h.2⟩
theorem flat_repl (n : Nat) : (List.replicate n [PyData.int 0]).flatten = List.replicate n (PyData.int 0) := by
  induction n with
  | zero => rfl
  | succ n ih => rw [List.replicate_succ, List.flatten_cons, ih, List.replicate_succ]; rfl
theorem pv_times_in (w : List Nat) (c : List Pc) (hw : w.length ≤ 900) (hc : c.length ≤ 100000) (hf : Fits w c) : fn_times_in [.str ⟨w.toArray⟩, .list (c.map pcD)] = some (.sh (.int (NH.times w c))) := by
  obtain ⟨M, eM, lM, hld⟩ := top_sq w
  have ln : (⟨w.toArray⟩ : Str).length = w.length := by show w.toArray.size = _; simp
  have lw : w.length ≤ 1000000 := by omega
  have b1 : -1000000 ≤ (w.length : Int) := by omega
  have b2 : (w.length : Int) ≤ 1000000 := by omega
  have sf := pv_short_form c hc
  have sq := pv_sq w (by omega)
  have cu := pv_cuts w hw
  have r1 : 1 * w.length ≤ 1000000 := by omega
  have lr : 1 + (List.replicate w.length (PyData.int 0)).length ≤ 1000000 := by simp; omega
  have s2 : pSet 2 (pBin pAdd false (pLst (dCons (pC (.int 1)) dNil)) (pBin pMul false (pLst (dCons (pC (.int 0)) dNil)) (pCaS dLen (aCons false (pVar 0) aNil)))) [.sh (.str ⟨w.toArray⟩), .sh (.list (c.map pcD)), .no, .no, .no, .no, .no, .no] = some ([.sh (.str ⟨w.toArray⟩), .sh (.list (c.map pcD)), .ow (((List.range (w.length + 1)).map (NH.beg w [])).map .int), .no, .no, .no, .no, .no], .nx) := by
    rw [← beg_nil w]
    simp only [pSet, pBin, pLst, dCons, pC, frz, dNil, Option.map_some, Option.bind_some, List.length_cons, List.length_nil, Nat.zero_add, Nat.reduceLeDiff, if_true, Sl.isBr, Bool.false_and, Bool.false_eq_true, pCaS, aCons, pVar, aNil, if_false, dLen, pMul, look, Sl.val, hot, hot1, Bool.not_false, Bool.true_or, Bool.and_true, pAdd, List.getElem?_cons_zero, lookA, ln, lw, Int.toNat_natCast, r1, b1, b2, and_self, decide_true, flat_repl, lr, List.cons_append, List.nil_append, PL.settle, frzAll, Nat.reduceAdd, Nat.reduceLT, List.set_cons_succ, List.set_cons_zero]
  have s3 : ∀ n0 : Sl, pSet 3 (pCall fn_stretches_of (aCons false (pVar 0) aNil)) [.sh (.str ⟨w.toArray⟩), .sh (.list (c.map pcD)), n0, .no, .no, .no, .no, .no] = some ([.sh (.str ⟨w.toArray⟩), .sh (.list (c.map pcD)), n0, .ow (((List.range w.length).map fun k => ((stq w k : Nat) : Int)).map .int), .no, .no, .no, .no], .nx) := fun n0 => by
    simp only [pSet, pCall, aCons, pVar, List.getElem?_cons_zero, Sl.isBr, Bool.false_and, Bool.false_eq_true, aNil, Option.map_some, if_false, Option.bind_some, lookA, look, Sl.val, sq, PL.settle, frz, frzAll, List.length_cons, List.length_nil, Nat.zero_add, Nat.reduceAdd, Nat.reduceLT, List.set_cons_succ, List.set_cons_zero, if_true]
  have s4 : ∀ n0 : Sl, pSet 4 (pCall fn_cuts_by_nail (aCons false (pVar 0) (aCons false (pVar 3) aNil))) [.sh (.str ⟨w.toArray⟩), .sh (.list (c.map pcD)), n0, .ow (((List.range w.length).map fun k => ((stq w k : Nat) : Int)).map .int), .no, .no, .no, .no] = some ([.sh (.str ⟨w.toArray⟩), .sh (.list (c.map pcD)), n0, .ow (((List.range w.length).map fun k => ((stq w k : Nat) : Int)).map .int), .od ((opsTo w w.length).foldl putO []), .no, .no, .no], .nx) := fun n0 => by
    simp only [pSet, pCall, aCons, pVar, List.getElem?_cons_zero, Sl.isBr, Bool.false_and, Bool.false_eq_true, aNil, Option.map_some, if_false, Option.bind_some, List.getElem?_cons_succ, lookA, look, Sl.val, cu, PL.settle, frz, frzAll, List.length_cons, List.length_nil, Nat.zero_add, Nat.reduceAdd, Nat.reduceLT, List.set_cons_succ, List.set_cons_zero, if_true]
  have s5 : ∀ n0 d0 : Sl, pSet 5 (pMaxD 0 (pVar 3)) [.sh (.str ⟨w.toArray⟩), .sh (.list (c.map pcD)), n0, .ow (((List.range w.length).map fun k => ((stq w k : Nat) : Int)).map .int), d0, .no, .no, .no] = some ([.sh (.str ⟨w.toArray⟩), .sh (.list (c.map pcD)), n0, .ow (((List.range w.length).map fun k => ((stq w k : Nat) : Int)).map .int), d0, .sh (.int M), .no, .no], .nx) := fun n0 d0 => by
    simp only [pSet, pMaxD, pVar, List.getElem?_cons_succ, List.getElem?_cons_zero, look, Sl.val, Option.bind_some, ints_i, Option.map_some, eM, PL.settle, frz, frzAll, List.length_cons, List.length_nil, Nat.zero_add, Nat.reduceAdd, Nat.reduceLT, List.set_cons_succ, List.set_cons_zero, if_true]
  obtain ⟨a, b, e⟩ := pl_times (.sh (.list (c.map pcD))) w hw (NH.short c) (fits_short hf) M lM hld (.ow (((List.range w.length).map fun k => ((stq w k : Nat) : Int)).map .int)) (NH.short c) [] .no .no rfl
  have it : ∀ n0 d0 e0 : Sl, iAny (pCall fn_short_form (aCons false (pVar 1) aNil)) [.sh (.str ⟨w.toArray⟩), .sh (.list (c.map pcD)), n0, .ow (((List.range w.length).map fun k => ((stq w k : Nat) : Int)).map .int), d0, e0, .no, .no] = some ((NH.short c).map pcD, [.sh (.str ⟨w.toArray⟩), .sh (.list (c.map pcD)), n0, .ow (((List.range w.length).map fun k => ((stq w k : Nat) : Int)).map .int), d0, e0, .no, .no]) := fun n0 d0 e0 => by
    simp only [iAny, pCall, aCons, pVar, List.getElem?_cons_succ, List.getElem?_cons_zero, Sl.isBr, Bool.false_and, Bool.false_eq_true, aNil, Option.map_some, if_false, Option.bind_some, lookA, look, Sl.val, sf, frz]
  have at1 : atI (((List.range (w.length + 1)).map (NH.beg w (NH.short c))).map PyData.int) (w.length : Int) = some (.int (NH.beg w (NH.short c) w.length)) := by
    rw [atI_nat', List.getElem?_map, List.getElem?_map, List.getElem?_range (by omega)]
    rfl
  have ends : NH.beg w (NH.short c) w.length = NH.times w c := by
    unfold NH.beg
    rw [List.take_length, NH.times_short]
  have g : fn_times_in [.str ⟨w.toArray⟩, .list (c.map pcD)] = (g_times_in [.sh (.str ⟨w.toArray⟩), .sh (.list (c.map pcD)), .no, .no, .no, .no, .no, .no]).bind fun a => match a.2 with | .rt r => outS r | .nx => some (.sh .none) | _ => none := rfl
  rw [g, g_times_in, seq_nx s2, seq_nx (s3 _), seq_nx (s4 _), seq_nx (s5 _ _), seq_nx (for_nx (it _ _ _) e)]
  simp only [pRet, pBin, pVar, List.getElem?_cons_succ, List.getElem?_cons_zero, Sl.isBr, Bool.false_and, Bool.false_eq_true, pCaS, aCons, aNil, Option.map_some, if_false, dLen, pIx, look, Sl.val, hot, hot1, Option.bind_some, lookA, ln, lw, if_true, Option.any_some, at1, ends, outS, Clean, flat]
theorem slice_text (x : Str) (l u : Option Int) : Txt.slice x l u = PySem.StrLaws.sliceText x l u := rfl
theorem slice_drop (w : List Nat) (i : Nat) (h : i ≤ w.length) : Txt.slice (⟨w.toArray⟩ : Str) (some (i : Int)) none = ⟨(w.drop i).toArray⟩ := by
  have e : (⟨w.toArray⟩ : Str).cps.toList = w := by simp
  rw [slice_text, PySem.StrLaws.sliceText_from ⟨by omega, by rw [e]; omega⟩, e]
  rw [show ((w.length : Int) - (i : Int)).toNat = w.length - i by omega, Int.toNat_natCast, List.take_of_length_le (by simp)]
theorem len_wr (w : List Nat) : (⟨w.toArray⟩ : Str).length = w.length := by show w.toArray.size = _; simp
theorem lt_bnd : (2 ^ 100) ^ 130 < 2 ^ 20000 := by
  rw [← Nat.pow_mul]
  exact Nat.pow_lt_pow_right (show 1 < 2 by decide) (show 100 * 130 < 20000 by decide)
theorem cord_magb {c : List Pc} (h : CordOk c) (hl : c.length ≤ 130) : NH.mag c < 2 ^ 20000 := Nat.lt_of_le_of_lt (h.mag hl) lt_bnd
noncomputable def IsC (s : Sl) (c : List Pc) : Prop := s = .sh (.list (c.map pcD)) ∨ s = .ow (c.map pcD)
theorem set_sh {f : PEv} {E E1 : List Sl} {d : PyData} {i : Nat} (h : f E = some (.sh d, E1)) (hi : i < E1.length) : pSet i f E = some (E1.set i (.sh d), .nx) := by
  unfold pSet
  rw [h]
  simp only [Option.bind_some, PL.settle, hi, if_true]
theorem bin_ne {x y : Int} {f g : PEv} {E : List Sl} (hg : g E = some (.sh (.int x), E)) (hf : f E = some (.sh (.int y), E)) : pBin pNe false g f E = some (.sh (.bool (!decide (x = y))), E) := by
  simp only [pBin, pNe, sc2, hg, hf, Option.bind_some, look, Sl.val, Bool.false_and, Bool.false_eq_true, if_false, dEq_int, Option.map_some]
noncomputable def eN (r : List Pc) (l : Nat) : List Nat := (r.map (·.1)).drop (r.length - l)
noncomputable def pN (r : List Pc) (l i : Nat) : Int := NH.picks (eN r l) (r.drop i)
theorem eN_zero (r : List Pc) : eN r 0 = [] := by unfold eN; simp
theorem eN_len (r : List Pc) {l : Nat} (h : l ≤ r.length) : (eN r l).length = l := by unfold eN; simp; omega
theorem eN_all (r : List Pc) : eN r r.length = r.map (·.1) := by unfold eN; simp
theorem eN_succ (r : List Pc) {l : Nat} (h : l < r.length) : eN r (l + 1) = (r[r.length - (l + 1)]).1 :: eN r l := by
  unfold eN
  rw [List.drop_eq_getElem_cons (by simp; omega), List.getElem_map, show r.length - (l + 1) + 1 = r.length - l by omega]
theorem pN_zero (r : List Pc) (i : Nat) : pN r 0 i = 1 := by unfold pN; rw [eN_zero, NH.picks_nil]
theorem pN_few (r : List Pc) {l i : Nat} (h1 : 1 ≤ l) (h : l ≤ r.length) (hi : r.length < l + i) : pN r l i = 0 := NH.picks_short _ _ (by rw [eN_len r h, List.length_drop]; omega)
theorem pN_step (r : List Pc) {l i : Nat} (h : l < r.length) (hi : i < r.length) : pN r (l + 1) i = pN r (l + 1) (i + 1) + if (r[i]).1 = (r[r.length - (l + 1)]).1 then (r[i]).2 * pN r l (i + 1) else 0 := by
  unfold pN
  rw [eN_succ r h, List.drop_eq_getElem_cons hi, NH.picks]
theorem pN_all {r : List Pc} (h : NH.Red r) : pN r r.length 0 ≠ 0 := by
  unfold pN
  rw [eN_all, List.drop_zero, NH.picks_row]
  exact NH.prodT_ne h
noncomputable def rowP (r : List Pc) (l : Nat) : List Int := (List.range (r.length + 1)).map (pN r l)
noncomputable def toldP (r : List Pc) (l m : Nat) : List Int := (List.range (r.length + 1)).map fun i => if i < m then 0 else pN r l i
theorem atI_neg' {xs : List PyData} {k : Nat} (h1 : 1 ≤ k) (h2 : k ≤ xs.length) : atI xs (-(k : Int)) = xs[xs.length - k]? := by
  unfold atI
  rw [ixN, if_neg (by omega), if_pos (by omega)]
  show xs[(-(k : Int) + (xs.length : Int)).toNat]? = _
  rw [show (-(k : Int) + (xs.length : Int)).toNat = xs.length - k by omega]
theorem st_longer (r : List Pc) (hr : r.length ≤ 1000) (l : Nat) (hl : l < r.length) (x2 b : Sl) (m : Nat) (hm : m < r.length) (hM : ∀ i i', i < r.length → okMul (r.getD i (0, 0)).2 (pN r l i') = true) :
    (t_longer_end_L0 (.int m) [.sh (.list (r.map pcD)), .sh (.list ((rowP r l).map .int)), x2, .ow ((toldP r (l + 1) (m + 1)).map .int), .sh (.str ⟨#[(r[r.length - (l + 1)]).1]⟩), .sh (.int (pN r (l + 1) (m + 1))), b]).bind g_longer_end_L0 = some ([.sh (.list (r.map pcD)), .sh (.list ((rowP r l).map .int)), x2, .ow ((toldP r (l + 1) m).map .int), .sh (.str ⟨#[(r[r.length - (l + 1)]).1]⟩), .sh (.int (pN r (l + 1) m)), .sh (.int m)], .nx) := by
  have at1 : atI (r.map pcD) (m : Int) = some (.tuple [.str ⟨#[(r[m]).1]⟩, .int (r[m]).2]) := by
    rw [atI_nat', List.getElem?_map, List.getElem?_eq_getElem hm]
    rfl
  have at2 : atI ((rowP r l).map PyData.int) ((m : Int) + 1) = some (.int (pN r l (m + 1))) := by
    rw [show (m : Int) + 1 = ((m + 1 : Nat) : Int) by omega, atI_nat', List.getElem?_map, rowP, List.getElem?_map, List.getElem?_range (by omega)]
    rfl
  have ok : okMul (r[m]).2 (pN r l (m + 1)) = true := by
    have := hM m (m + 1) hm
    simpa [List.getD_eq_getElem?_getD, hm] using this
  have ix : ixN ((toldP r (l + 1) (m + 1)).map PyData.int).length (m : Int) = some m := by
    rw [List.length_map, toldP, List.length_map, List.length_range]
    exact ixN_L (by omega)
  have st : ∀ v : Int, v = pN r (l + 1) m → ((toldP r (l + 1) (m + 1)).map PyData.int).set m (.int v) = (toldP r (l + 1) m).map .int := fun v hv => by
    rw [← List.map_set]
    refine congrArg (List.map PyData.int) ?_
    unfold toldP
    rw [set_L]
    refine List.map_congr_left fun i _ => ?_
    by_cases e : i = m
    · subst e
      rw [if_pos rfl, if_neg (by omega), hv]
    · rw [if_neg e]
      by_cases q : i < m
      · rw [if_pos (by omega), if_pos q]
      · rw [if_neg (by omega), if_neg q]
  have ps := pN_step r hl hm
  have tg : t_longer_end_L0 (.int m) [.sh (.list (r.map pcD)), .sh (.list ((rowP r l).map .int)), x2, .ow ((toldP r (l + 1) (m + 1)).map .int), .sh (.str ⟨#[(r[r.length - (l + 1)]).1]⟩), .sh (.int (pN r (l + 1) (m + 1))), b] = some [.sh (.list (r.map pcD)), .sh (.list ((rowP r l).map .int)), x2, .ow ((toldP r (l + 1) (m + 1)).map .int), .sh (.str ⟨#[(r[r.length - (l + 1)]).1]⟩), .sh (.int (pN r (l + 1) (m + 1))), .sh (.int m)] := rfl
  rw [tg, Option.bind_some]
  generalize (r[r.length - (l + 1)]).1 = a at *
  by_cases q : (r[m]).1 = a
  · rw [if_pos q] at ps
    have s1 := st _ ps.symm
    simp only [g_longer_end_L0, pSeq, pIfS, isB, pBin, pVar, List.getElem?_cons_zero, Sl.isBr, Bool.false_and, Bool.false_eq_true, pIx, look, Sl.val, hot, hot1, if_false, Option.bind_some, List.getElem?_cons_succ, at1, q, Option.map_some, pC, atI_0, pEq, sc2, dEq_str, decide_true, pSet, pAdd, Bool.not_false, Bool.true_or, Bool.and_true, pMul, PL.settle, frz, frzAll, pNext, atI_1, at2, ok, if_true, List.length_cons, List.length_nil, Nat.zero_add, Nat.reduceAdd, Nat.reduceLT, List.set_cons_succ, List.set_cons_zero, pSetIx, ix, s1, ps]
  · rw [if_neg q, Int.add_zero] at ps
    have s1 := st _ ps.symm
    simp only [g_longer_end_L0, pSeq, pIfS, isB, pBin, pVar, List.getElem?_cons_zero, Sl.isBr, Bool.false_and, Bool.false_eq_true, pIx, look, Sl.val, hot, hot1, if_false, Option.bind_some, List.getElem?_cons_succ, at1, Option.map_some, pC, atI_0, pEq, sc2, dEq_str, str1_eq, q, decide_false, pSet, pAdd, Bool.not_false, Bool.true_or, Bool.and_true, pMul, PL.settle, frz, frzAll, pNext, atI_1, at2, pSetIx, List.set_cons_succ, List.set_cons_zero, ix, s1, ps]
theorem pl_longer (r : List Pc) (hr : r.length ≤ 1000) (l : Nat) (hl : l < r.length) (x2 : Sl) (hM : ∀ i i', i < r.length → okMul (r.getD i (0, 0)).2 (pN r l i') = true) : ∀ (m : Nat) (b : Sl), m ≤ r.length → ∃ c' b',
    pLoop t_longer_end_L0 g_longer_end_L0 (rngC ((m : Int) - 1) (-1) m) [.sh (.list (r.map pcD)), .sh (.list ((rowP r l).map .int)), x2, .ow ((toldP r (l + 1) m).map .int), .sh (.str ⟨#[(r[r.length - (l + 1)]).1]⟩), .sh (.int (pN r (l + 1) m)), b] = some ([.sh (.list (r.map pcD)), .sh (.list ((rowP r l).map .int)), x2, .ow ((toldP r (l + 1) 0).map .int), .sh (.str ⟨#[(r[r.length - (l + 1)]).1]⟩), c', b'], .nx)
  | 0, b, _ => ⟨_, b, rfl⟩
  | m + 1, b, h => by
    have s := st_longer r hr l hl x2 b m (by omega) hM
    obtain ⟨c', b', e⟩ := pl_longer r hr l hl x2 hM m (.sh (.int m)) (by omega)
    refine ⟨c', b', ?_⟩
    rw [show ((m + 1 : Nat) : Int) - 1 = (m : Int) by omega, rngC_down, pLoop, s]
    exact e
theorem pv_longer (r : List Pc) (hr : r.length ≤ 1000) (l : Nat) (hl : l < r.length) (hM : ∀ i i', i < r.length → okMul (r.getD i (0, 0)).2 (pN r l i') = true) : fn_longer_end [.list (r.map pcD), .list ((rowP r l).map .int), .int ((l : Int) + 1)] = some (.ow ((rowP r (l + 1)).map .int)) := by
  obtain ⟨c', b', e⟩ := pl_longer r hr l hl (.sh (.int ((l : Int) + 1))) hM (r.length - l) .no (by omega)
  have z0 : pN r (l + 1) (r.length - l) = 0 := pN_few r (by omega) hl (by omega)
  have t0 : (toldP r (l + 1) (r.length - l)).map PyData.int = List.replicate (r.length + 1) (.int 0) := by
    unfold toldP
    rw [List.map_map]
    refine List.ext_getElem? fun i => ?_
    by_cases h : i < r.length + 1
    · rw [List.getElem?_map, List.getElem?_range h, List.getElem?_eq_getElem (by simpa using h)]
      simp only [Option.map_some, Function.comp, List.getElem_replicate]
      congr 2
      split
      · rfl
      · exact pN_few r (by omega) hl (by omega)
    · rw [List.getElem?_eq_none (by simp; omega), List.getElem?_eq_none (by simp; omega)]
  have tE : toldP r (l + 1) 0 = rowP r (l + 1) := by
    unfold toldP rowP
    refine List.map_congr_left fun i _ => ?_
    rw [if_neg (by omega)]
  rw [z0, t0, tE] at e
  have ln : (rowP r l).length = r.length + 1 := by unfold rowP; simp
  have s3 : pSet 3 (pBin pMul false (pLst (dCons (pC (.int 0)) dNil)) (pCaS dLen (aCons false (pVar 1) aNil))) [.sh (.list (r.map pcD)), .sh (.list ((rowP r l).map .int)), .sh (.int ((l : Int) + 1)), .no, .no, .no, .no] = some ([.sh (.list (r.map pcD)), .sh (.list ((rowP r l).map .int)), .sh (.int ((l : Int) + 1)), .ow (List.replicate (r.length + 1) (.int 0)), .no, .no, .no], .nx) := by
    have b0 : 1 * (r.length + 1) ≤ 1000000 := by omega
    have b1 : -1000000 ≤ ((r.length + 1 : Nat) : Int) := by omega
    have b2 : ((r.length + 1 : Nat) : Int) ≤ 1000000 := by omega
    simp only [pSet, pBin, pLst, dCons, pC, frz, dNil, Option.map_some, Option.bind_some, List.length_cons, List.length_nil, Nat.zero_add, Nat.reduceLeDiff, if_true, Sl.isBr, Bool.false_and, Bool.false_eq_true, pCaS, aCons, pVar, aNil, if_false, dLen, pMul, look, Sl.val, hot, hot1, List.getElem?_cons_succ, List.getElem?_cons_zero, lookA, List.length_map, ln, Bool.not_false, Bool.true_or, Bool.and_true, Int.toNat_natCast, b0, b1, b2, and_self, decide_true, List.replicate, PL.settle, frzAll, Nat.reduceAdd, Nat.reduceLT, List.set_cons_succ, List.set_cons_zero]
    rw [List.flatten_cons, flat_repl]
    rfl
  have at1 : atI (r.map pcD) (-((l : Int) + 1)) = some (.tuple [.str ⟨#[(r[r.length - (l + 1)]).1]⟩, .int (r[r.length - (l + 1)]).2]) := by
    have := atI_neg' (xs := r.map pcD) (k := l + 1) (by omega) (by simp; omega)
    rw [show ((l + 1 : Nat) : Int) = (l : Int) + 1 by omega, List.length_map, List.getElem?_map, List.getElem?_eq_getElem (by omega)] at this
    rw [this]
    rfl
  have s4 : ∀ y : Sl, pSet 4 (pBin pIx false (pBin pIx false (pVar 0) (pUn dNeg (pVar 2))) (pC (.int 0))) [.sh (.list (r.map pcD)), .sh (.list ((rowP r l).map .int)), .sh (.int ((l : Int) + 1)), y, .no, .no, .no] = some ([.sh (.list (r.map pcD)), .sh (.list ((rowP r l).map .int)), .sh (.int ((l : Int) + 1)), y, .sh (.str ⟨#[(r[r.length - (l + 1)]).1]⟩), .no, .no], .nx) := fun y => by
    simp only [pSet, pBin, pVar, List.getElem?_cons_zero, Sl.isBr, Bool.false_and, Bool.false_eq_true, pUn, look, Sl.val, dNeg, pIx, hot, hot1, if_false, Option.bind_some, List.getElem?_cons_succ, Option.map_some, at1, pC, atI_0, PL.settle, frz, frzAll, List.length_cons, List.length_nil, Nat.zero_add, Nat.reduceAdd, Nat.reduceLT, List.set_cons_succ, List.set_cons_zero, if_true]
  have h1 : ∀ y z w : Sl, (aCons false (pBin pSub false (pCaS dLen (aCons false (pVar 0) aNil)) (pVar 2)) (aCons false (pUn dNeg (pC (.int 1))) (aCons false (pUn dNeg (pC (.int 1))) aNil))) [.sh (.list (r.map pcD)), .sh (.list ((rowP r l).map .int)), .sh (.int ((l : Int) + 1)), y, z, w, .no] = some ([.sh (.int ((r.length : Int) - ((l : Int) + 1))), .sh (.int (-1)), .sh (.int (-1))], [.sh (.list (r.map pcD)), .sh (.list ((rowP r l).map .int)), .sh (.int ((l : Int) + 1)), y, z, w, .no]) := fun y z w => by
    simp only [aCons, pBin, pCaS, pVar, List.getElem?_cons_zero, Sl.isBr, Bool.false_and, Bool.false_eq_true, aNil, Option.map_some, if_false, Option.bind_some, dLen, lookA, look, Sl.val, List.length_map, pSub, sc2, iOp, if_true, List.getElem?_cons_succ, pUn, pC, dNeg]
  have hi := fun y z w => rng3_at (h1 y z w) rfl ⟨⟨by omega, by omega⟩, ⟨by omega, by omega⟩, ⟨by omega, by omega⟩, by decide⟩
  rw [show (r.length : Int) - ((l : Int) + 1) = ((r.length - l : Nat) : Int) - 1 by omega] at hi
  rw [rngN_down, show (((r.length - l : Nat) : Int) - 1 - -1).toNat = r.length - l by omega] at hi
  have fo := for_nx (tg := t_longer_end_L0) (body := g_longer_end_L0) (hi _ _ _) e
  have fl : flatA ((rowP r (l + 1)).map PyData.int) = true := flatA_ints _
  have g : fn_longer_end [.list (r.map pcD), .list ((rowP r l).map .int), .int ((l : Int) + 1)] = (g_longer_end [.sh (.list (r.map pcD)), .sh (.list ((rowP r l).map .int)), .sh (.int ((l : Int) + 1)), .no, .no, .no, .no]).bind fun a => match a.2 with | .rt r => outS r | .nx => some (.sh .none) | _ => none := rfl
  rw [g, g_longer_end, seq_nx s3, seq_nx (s4 _), seq_nx (f := pSet 5 (pC (.int 0))) (E1 := [.sh (.list (r.map pcD)), .sh (.list ((rowP r l).map .int)), .sh (.int ((l : Int) + 1)), .ow (List.replicate (r.length + 1) (.int 0)), .sh (.str ⟨#[(r[r.length - (l + 1)]).1]⟩), .sh (.int 0), .no]) rfl, seq_nx fo]
  simp only [pRet, pVar, List.getElem?_cons_succ, List.getElem?_cons_zero, Option.bind_some, List.set_cons_succ, List.set_cons_zero, Option.map_some, outS, Clean, fl, if_true]
theorem okP {r : List Pc} (hm : NH.mag r < 2 ^ 20000) (l : Nat) : ∀ i i', i < r.length → okMul (r.getD i (0, 0)).2 (pN r l i') = true := fun i i' hi => by
  have m1 : (r.getD i (0, 0)).2.natAbs < NH.mag r := NH.mag_mem (by rw [List.getD_eq_getElem?_getD, List.getElem?_eq_getElem hi]; exact List.getElem_mem hi)
  have m2 := NH.picks_le (r.drop i') (eN r l)
  have h : NH.mag r = NH.mag (r.take i') * NH.mag (r.drop i') := by rw [← NH.mag_append, List.take_append_drop]
  have m3 : NH.mag (r.drop i') ≤ NH.mag r := by rw [h]; exact Nat.le_mul_of_pos_left _ (NH.mag_pos _)
  exact okMul_b (Nat.lt_trans m1 hm) (Nat.lt_of_le_of_lt (Nat.le_trans m2 m3) hm)
noncomputable def Tells (r : List Pc) (L : Nat) : Prop := L < r.length ∧ pN r (L + 1) 0 ≠ 0 ∧ ∀ l, l < L → pN r (l + 1) 0 = 0
theorem least_of (f : Nat → Int) : ∀ n, f n ≠ 0 → ∃ L, L ≤ n ∧ f L ≠ 0 ∧ ∀ l, l < L → f l = 0 := fun n => by
  induction n using Nat.strongRecOn with
  | _ n ih =>
    intro h
    by_cases e : ∃ m, m < n ∧ f m ≠ 0
    · obtain ⟨m, h1, h2⟩ := e
      obtain ⟨L, l1, l2, l3⟩ := ih m h1 h2
      exact ⟨L, by omega, l2, l3⟩
    · exact ⟨n, Nat.le_refl _, h, fun l hl => Classical.byContradiction fun z => e ⟨l, hl, z⟩⟩
theorem tells_of {r : List Pc} (h : NH.Red r) (h0 : r ≠ []) : ∃ L, Tells r L := by
  have l0 : 0 < r.length := List.length_pos_iff.mpr h0
  have a := pN_all h
  obtain ⟨L, l1, l2, l3⟩ := least_of (fun l => pN r (l + 1) 0) (r.length - 1) (by show pN r (r.length - 1 + 1) 0 ≠ 0; rw [show r.length - 1 + 1 = r.length by omega]; exact a)
  exact ⟨L, by omega, l2, l3⟩
theorem ones_r (r : List Pc) : (rowP r 0).map PyData.int = List.replicate (r.length + 1) (.int 1) := by
  unfold rowP
  rw [List.map_map]
  refine List.ext_getElem? fun i => ?_
  by_cases h : i < r.length + 1
  · rw [List.getElem?_map, List.getElem?_range h, List.getElem?_eq_getElem (by simpa using h)]
    simp only [Option.map_some, Function.comp, List.getElem_replicate, pN_zero]
  · rw [List.getElem?_eq_none (by simp; omega), List.getElem?_eq_none (by simp; omega)]
theorem flat_ones (n : Nat) : (List.replicate n [PyData.int 1]).flatten = List.replicate n (PyData.int 1) := by
  induction n with
  | zero => rfl
  | succ n ih => rw [List.replicate_succ, List.flatten_cons, ih, List.replicate_succ]; rfl
theorem sh_while (r : List Pc) (hr : r.length ≤ 1000) (hm : NH.mag r < 2 ^ 20000) (L : Nat) (h : Tells r L) : ∀ (d l : Nat), l + d = L → pWhileN c_shortest_end_L0 g_shortest_end_L0 (d + 1) [.sh (.list (r.map pcD)), .sh (.int ((l : Int) + 1)), .ow ((rowP r (l + 1)).map .int)] = some ([.sh (.list (r.map pcD)), .sh (.int ((L : Int) + 1)), .ow ((rowP r (L + 1)).map .int)], .nx) := fun d => by
  have test : ∀ l : Nat, c_shortest_end_L0 [.sh (.list (r.map pcD)), .sh (.int ((l : Int) + 1)), .ow ((rowP r (l + 1)).map .int)] = some (decide (pN r (l + 1) 0 = 0), [.sh (.list (r.map pcD)), .sh (.int ((l : Int) + 1)), .ow ((rowP r (l + 1)).map .int)]) := fun l => by
    have at1 : atI ((rowP r (l + 1)).map PyData.int) 0 = some (.int (pN r (l + 1) 0)) := by
      rw [show (0 : Int) = ((0 : Nat) : Int) from rfl, atI_nat', List.getElem?_map, rowP, List.getElem?_map, List.getElem?_range (by omega)]
      rfl
    simp only [c_shortest_end_L0, isB, pBin, pVar, List.getElem?_cons_succ, List.getElem?_cons_zero, Sl.isBr, Bool.false_and, Bool.false_eq_true, pC, pIx, look, Sl.val, hot, hot1, Option.bind_some, if_false, Option.any_some, at1, Option.map_some, pEq, sc2, dEq_int]
  induction d with
  | zero =>
    intro l e
    have : l = L := by omega
    subst this
    rw [pWhileN, test, decide_eq_false h.2.1]
    rfl
  | succ d ih =>
    intro l e
    have lz := h.2.2 l (by omega)
    have hL := h.1
    have lg := pv_longer r hr (l + 1) (by omega) (okP hm _)
    have i := ih (l + 1) (by omega)
    rw [show ((l + 1 : Nat) : Int) = (l : Int) + 1 by omega] at lg i
    have s1 : pSet 1 (pBin pAdd false (pVar 1) (pC (.int 1))) [.sh (.list (r.map pcD)), .sh (.int ((l : Int) + 1)), .ow ((rowP r (l + 1)).map .int)] = some ([.sh (.list (r.map pcD)), .sh (.int ((l : Int) + 1 + 1)), .ow ((rowP r (l + 1)).map .int)], .nx) := rfl
    have q : pCall fn_longer_end (aCons false (pVar 0) (aCons false (pVar 2) (aCons false (pVar 1) aNil))) [.sh (.list (r.map pcD)), .sh (.int ((l : Int) + 1 + 1)), .ow ((rowP r (l + 1)).map .int)] = some (.ow ((rowP r (l + 1 + 1)).map .int), [.sh (.list (r.map pcD)), .sh (.int ((l : Int) + 1 + 1)), .ow ((rowP r (l + 1)).map .int)]) := call_at rfl rfl lg
    have s2 : pSet 2 (pCall fn_longer_end (aCons false (pVar 0) (aCons false (pVar 2) (aCons false (pVar 1) aNil)))) [.sh (.list (r.map pcD)), .sh (.int ((l : Int) + 1 + 1)), .ow ((rowP r (l + 1)).map .int)] = some ([.sh (.list (r.map pcD)), .sh (.int ((l : Int) + 1 + 1)), .ow ((rowP r (l + 1 + 1)).map .int)], .nx) := by
      unfold pSet
      rw [q]
      rfl
    have b : g_shortest_end_L0 [.sh (.list (r.map pcD)), .sh (.int ((l : Int) + 1)), .ow ((rowP r (l + 1)).map .int)] = some ([.sh (.list (r.map pcD)), .sh (.int ((l : Int) + 1 + 1)), .ow ((rowP r (l + 1 + 1)).map .int)], .nx) := by
      rw [g_shortest_end_L0, seq_nx s1]
      exact s2
    rw [pWhileN, test, decide_eq_true lz, Option.bind_some, if_pos rfl, b, Option.bind_some]
    exact i
theorem cutL_neg {α : Type} (l : List α) {k : Nat} (h1 : 1 ≤ k) (h2 : k ≤ l.length) : cutL l (some (-(k : Int))) none = l.drop (l.length - k) := by
  have s1 : HT.sIx l.length 0 (some (-(k : Int))) = l.length - k := by
    show (if -(k : Int) < 0 then (-(k : Int) + (l.length : Int)).toNat else min (-(k : Int)).toNat l.length) = _
    rw [if_pos (by omega)]
    omega
  have s2 : HT.sIx l.length l.length none = l.length := rfl
  unfold cutL
  rw [s1, s2, List.take_of_length_le (by simp)]
theorem pv_shortest (r : List Pc) (hr : r.length ≤ 1000) (hm : NH.mag r < 2 ^ 20000) (L : Nat) (h : Tells r L) : fn_shortest_end [.list (r.map pcD)] = some (.sh (.str ⟨(eN r (L + 1)).toArray⟩)) := by
  have hL := h.1
  have l1 := pv_longer r hr 0 (by omega) (okP hm _)
  rw [ones_r] at l1
  simp only [Int.natCast_zero, Int.zero_add] at l1
  have wh := pWhile_of (sh_while r hr hm L h L 0 (by omega))
  simp only [Int.natCast_zero, Int.zero_add, Nat.zero_add] at wh
  have ar : (aCons false (pVar 0) (aCons false (pBin pMul false (pLst (dCons (pC (.int 1)) dNil)) (pBin pAdd false (pCaS dLen (aCons false (pVar 0) aNil)) (pC (.int 1)))) (aCons false (pVar 1) aNil))) [.sh (.list (r.map pcD)), .sh (.int 1), .no] = some ([.sh (.list (r.map pcD)), .ow (List.replicate (r.length + 1) (.int 1)), .sh (.int 1)], [.sh (.list (r.map pcD)), .sh (.int 1), .no]) := by
    have n1 : ((r.length : Int) + 1).toNat = r.length + 1 := by omega
    have b0 : 1 * (r.length + 1) ≤ 1000000 := by omega
    have b1 : -1000000 ≤ (r.length : Int) + 1 := by omega
    have b2 : (r.length : Int) + 1 ≤ 1000000 := by omega
    simp only [aCons, pVar, List.getElem?_cons_zero, Sl.isBr, Bool.false_and, Bool.false_eq_true, pBin, pLst, dCons, pC, frz, dNil, Option.map_some, Option.bind_some, List.length_cons, List.length_nil, Nat.zero_add, Nat.reduceLeDiff, if_true, pCaS, aNil, if_false, dLen, pAdd, look, Sl.val, hot, hot1, Bool.not_false, Bool.true_or, Bool.and_true, pMul, lookA, List.length_map, n1, b0, b1, b2, and_self, decide_true, List.replicate, List.getElem?_cons_succ]
    rw [List.flatten_cons, flat_ones]
    rfl
  have q := call_at ar rfl l1
  have s2 : pSet 2 (pCall fn_longer_end (aCons false (pVar 0) (aCons false (pBin pMul false (pLst (dCons (pC (.int 1)) dNil)) (pBin pAdd false (pCaS dLen (aCons false (pVar 0) aNil)) (pC (.int 1)))) (aCons false (pVar 1) aNil)))) [.sh (.list (r.map pcD)), .sh (.int 1), .no] = some ([.sh (.list (r.map pcD)), .sh (.int 1), .ow ((rowP r 1).map .int)], .nx) := by
    unfold pSet
    rw [q]
    rfl
  have nl := pv_nails_in_order (r.drop (r.length - (L + 1))) (by simp; omega)
  have cn := cutL_neg r (k := L + 1) (by omega) (by omega)
  rw [show ((L + 1 : Nat) : Int) = (L : Int) + 1 by omega] at cn
  have ar2 : ∀ y : Sl, (aCons false (pCut false (pVar 0) (oSome (pUn dNeg (pVar 1))) oNone) aNil) [.sh (.list (r.map pcD)), .sh (.int ((L : Int) + 1)), y] = some ([.ow ((r.drop (r.length - (L + 1))).map pcD)], [.sh (.list (r.map pcD)), .sh (.int ((L : Int) + 1)), y]) := fun y => by
    simp only [aCons, pCut, pVar, List.getElem?_cons_zero, Sl.isBr, Bool.false_and, Bool.false_eq_true, oSome, pUn, look, Sl.val, dNeg, oNone, hot, hot1, Option.bind_some, if_false, List.getElem?_cons_succ, Option.map_some, Bool.not_false, cutD_map, flatA_pc, Bool.or_true, if_true, cn, aNil]
  have q2 := fun y => call_at (ar2 y) rfl nl
  have g : fn_shortest_end [.list (r.map pcD)] = (g_shortest_end [.sh (.list (r.map pcD)), .no, .no]).bind fun a => match a.2 with | .rt r => outS r | .nx => some (.sh .none) | _ => none := rfl
  rw [g, g_shortest_end, seq_nx (f := pSet 1 (pC (.int 1))) (E1 := [.sh (.list (r.map pcD)), .sh (.int 1), .no]) rfl, seq_nx s2, seq_nx wh]
  unfold pRet
  rw [q2]
  unfold eN
  rw [← List.map_drop]
  rfl
theorem fits_90 {w : List Nat} {c : List Pc} (hw : w.length ≤ 90) (hl : c.length ≤ 90) (h : CordOk c) : Fits w c := by
  have h1 := NH.sumT_of (B := 2 ^ 100) c fun p hp => (h p hp).2
  have h2 : c.length * 2 ^ 100 ≤ 90 * 2 ^ 100 := Nat.mul_le_mul_right _ hl
  have h3 : w.length * c.length ≤ 90 * 90 := Nat.mul_le_mul hw hl
  have h4 : NH.sumT c + w.length * c.length + w.length + 1 ≤ 2 ^ 110 := by omega
  have h5 : (NH.sumT c + w.length * c.length + w.length + 1) ^ w.length ≤ (2 ^ 110) ^ 90 := Nat.le_trans (Nat.pow_le_pow_left h4 _) (Nat.pow_le_pow_right (Nat.two_pow_pos _) hw)
  refine ⟨Nat.lt_of_le_of_lt h5 ?_, Nat.lt_of_le_of_lt h4 ?_⟩
  · rw [← Nat.pow_mul]
    exact Nat.pow_lt_pow_right (by decide) (by decide)
  · exact Nat.pow_lt_pow_right (by decide) (by decide)
theorem unlike_drop : ∀ (w : List Nat) (k : Nat), NH.Unlike w → NH.Unlike (w.drop k)
  | w, 0, h => by simpa using h
  | [], k + 1, h => by simpa using h
  | a :: w, k + 1, h => by simpa using unlike_drop w k h.tail
noncomputable def btw (c d : List Pc) : List Pc := NH.short (NH.contr c ++ d)
structure Two (c d : List Pc) : Prop where
  lc : c.length ≤ 45
  ld : d.length ≤ 45
  oc : CordOk c
  od : CordOk d
theorem Two.lb {c d : List Pc} (h : Two c d) : (btw c d).length ≤ 90 := by
  have h1 := NH.short_len (NH.contr c ++ d)
  rw [List.length_append, NH.contr_length] at h1
  have := h.lc
  have := h.ld
  unfold btw
  omega
theorem Two.mb {c d : List Pc} (h : Two c d) : NH.mag (btw c d) < 2 ^ 20000 := by
  refine Nat.lt_of_le_of_lt (NH.mag_short (NH.contr c ++ d)) (cord_magb (h.oc.contr.append h.od) ?_)
  rw [List.length_append, NH.contr_length]
  have := h.lc
  have := h.ld
  omega
theorem Two.times {c d : List Pc} (h : Two c d) {L : Nat} (hL : L < (btw c d).length) : fn_times_in [.str ⟨(eN (btw c d) (L + 1)).toArray⟩, .list (c.map pcD)] = some (.sh (.int (NH.picks (eN (btw c d) (L + 1)) c))) ∧ fn_times_in [.str ⟨(eN (btw c d) (L + 1)).toArray⟩, .list (d.map pcD)] = some (.sh (.int (NH.picks (eN (btw c d) (L + 1)) d))) := by
  have lw := eN_len (btw c d) (show L + 1 ≤ (btw c d).length by omega)
  have lb := h.lb
  have hu : NH.Unlike (eN (btw c d) (L + 1)) := unlike_drop _ _ (NH.short_red (NH.contr c ++ d)).unlike
  have := h.lc
  have := h.ld
  rw [← NH.times_picks c _ hu, ← NH.times_picks d _ hu]
  exact ⟨pv_times_in _ c (by omega) (by omega) (fits_90 (by omega) (by omega) h.oc), pv_times_in _ d (by omega) (by omega) (fits_90 (by omega) (by omega) h.od)⟩
noncomputable def ansD (c d : List Pc) (L : Nat) : PyData := .tuple [.str ⟨(eN (btw c d) (L + 1)).toArray⟩, .int (NH.picks (eN (btw c d) (L + 1)) c), .int (NH.picks (eN (btw c d) (L + 1)) d)]
theorem told_first (c d : List Pc) (h : Two c d) : pSet 2 (pCall fn_short_form (aCons false (pCall fn_joined (aCons false (pCall fn_contrary (aCons false (pVar 0) aNil)) (aCons false (pVar 1) aNil))) aNil)) [.sh (.list (c.map pcD)), .sh (.list (d.map pcD)), .no, .no] = some ([.sh (.list (c.map pcD)), .sh (.list (d.map pcD)), .ow ((btw c d).map pcD), .no], .nx) := by
  have := h.lc
  have := h.ld
  have e1 := pv_contrary c (by omega)
  have e2 := pv_joined (NH.contr c) d (by rw [NH.contr_length]; omega)
  have e3 := pv_short_form (NH.contr c ++ d) (by rw [List.length_append, NH.contr_length]; omega)
  have q1 : pCall fn_contrary (aCons false (pVar 0) aNil) [.sh (.list (c.map pcD)), .sh (.list (d.map pcD)), .no, .no] = some (.ow ((NH.contr c).map pcD), [.sh (.list (c.map pcD)), .sh (.list (d.map pcD)), .no, .no]) := call_at rfl rfl e1
  have q2 : pCall fn_joined (aCons false (pCall fn_contrary (aCons false (pVar 0) aNil)) (aCons false (pVar 1) aNil)) [.sh (.list (c.map pcD)), .sh (.list (d.map pcD)), .no, .no] = some (.ow ((NH.contr c ++ d).map pcD), [.sh (.list (c.map pcD)), .sh (.list (d.map pcD)), .no, .no]) := by
    refine call_at (ss := [.ow ((NH.contr c).map pcD), .sh (.list (d.map pcD))]) ?_ rfl e2
    rw [aCons, q1]
    rfl
  have q3 : pCall fn_short_form (aCons false (pCall fn_joined (aCons false (pCall fn_contrary (aCons false (pVar 0) aNil)) (aCons false (pVar 1) aNil))) aNil) [.sh (.list (c.map pcD)), .sh (.list (d.map pcD)), .no, .no] = some (.ow ((btw c d).map pcD), [.sh (.list (c.map pcD)), .sh (.list (d.map pcD)), .no, .no]) := by
    refine call_at (ss := [.ow ((NH.contr c ++ d).map pcD)]) ?_ rfl e3
    rw [aCons, q2]
    rfl
  unfold pSet
  rw [q3]
  rfl
theorem pv_told_none (c d : List Pc) (h : Two c d) (h0 : btw c d = []) : fn_told_apart [.list (c.map pcD), .list (d.map pcD)] = some (.sh .none) := by
  have s := told_first c d h
  rw [h0] at s
  have g : fn_told_apart [.list (c.map pcD), .list (d.map pcD)] = (g_told_apart [.sh (.list (c.map pcD)), .sh (.list (d.map pcD)), .no, .no]).bind fun a => match a.2 with | .rt r => outS r | .nx => some (.sh .none) | _ => none := rfl
  rw [g, g_told_apart, seq_nx s]
  simp only [pSeq, pIfS, tNotP, pTru, pVar, List.map_nil, List.getElem?_cons_succ, List.getElem?_cons_zero, Sl.val, Option.bind_some, dTru, List.isEmpty_nil, Bool.not_true, Option.map_some, Bool.not_false, pRet, pC, pNext, if_true, pSet, pCall, aCons, Sl.isBr, Bool.false_and, Bool.false_eq_true, aNil, if_false, PL.settle, frz, frzAll, normX, pTupM, mCons, takeP, mNil, outS, Clean, flat]
theorem pv_told (c d : List Pc) (h : Two c d) (L : Nat) (hT : Tells (btw c d) L) : fn_told_apart [.list (c.map pcD), .list (d.map pcD)] = some (.sh (ansD c d L)) := by
  have s := told_first c d h
  have lb := h.lb
  have sh := pv_shortest (btw c d) (by omega) h.mb L hT
  obtain ⟨t1, t2⟩ := h.times hT.1
  obtain ⟨p, r, er⟩ : ∃ p r, btw c d = p :: r := by
    cases e : btw c d with
    | nil => have := hT.1; rw [e] at this; simp at this
    | cons p r => exact ⟨p, r, rfl⟩
  have g : fn_told_apart [.list (c.map pcD), .list (d.map pcD)] = (g_told_apart [.sh (.list (c.map pcD)), .sh (.list (d.map pcD)), .no, .no]).bind fun a => match a.2 with | .rt r => outS r | .nx => some (.sh .none) | _ => none := rfl
  have i1 : pIfS (tNotP (pTru (pVar 2))) (pRet (pC .none)) pNext [.sh (.list (c.map pcD)), .sh (.list (d.map pcD)), .ow ((btw c d).map pcD), .no] = some ([.sh (.list (c.map pcD)), .sh (.list (d.map pcD)), .ow ((btw c d).map pcD), .no], .nx) := by
    rw [er]
    simp only [pIfS, tNotP, pTru, pVar, List.map_cons, List.getElem?_cons_succ, List.getElem?_cons_zero, Sl.val, Option.bind_some, dTru, List.isEmpty_cons, Bool.not_false, Option.map_some, Bool.not_true, pRet, pC, pNext, Bool.false_eq_true, if_false]
  have q1 : pCall fn_shortest_end (aCons false (pVar 2) aNil) [.sh (.list (c.map pcD)), .sh (.list (d.map pcD)), .ow ((btw c d).map pcD), .no] = some (.sh (.str ⟨(eN (btw c d) (L + 1)).toArray⟩), [.sh (.list (c.map pcD)), .sh (.list (d.map pcD)), .ow ((btw c d).map pcD), .no]) := call_at rfl rfl sh
  have s3 := set_sh q1 (i := 3) (show 3 < 4 by decide)
  have q2 : ∀ y : Sl, pCall fn_times_in (aCons false (pVar 3) (aCons false (pVar 0) aNil)) [.sh (.list (c.map pcD)), .sh (.list (d.map pcD)), y, .sh (.str ⟨(eN (btw c d) (L + 1)).toArray⟩)] = some (.sh (.int (NH.picks (eN (btw c d) (L + 1)) c)), [.sh (.list (c.map pcD)), .sh (.list (d.map pcD)), y, .sh (.str ⟨(eN (btw c d) (L + 1)).toArray⟩)]) := fun y => call_at rfl rfl t1
  have q3 : ∀ y : Sl, pCall fn_times_in (aCons false (pVar 3) (aCons false (pVar 1) aNil)) [.sh (.list (c.map pcD)), .sh (.list (d.map pcD)), y, .sh (.str ⟨(eN (btw c d) (L + 1)).toArray⟩)] = some (.sh (.int (NH.picks (eN (btw c d) (L + 1)) d)), [.sh (.list (c.map pcD)), .sh (.list (d.map pcD)), y, .sh (.str ⟨(eN (btw c d) (L + 1)).toArray⟩)]) := fun y => call_at rfl rfl t2
  rw [g, g_told_apart, seq_nx s, seq_nx i1, seq_nx s3]
  show (pRet (normX (pTupM (mCons (pVar 3) (mCons (pCall fn_times_in (aCons false (pVar 3) (aCons false (pVar 0) aNil))) (mCons (pCall fn_times_in (aCons false (pVar 3) (aCons false (pVar 1) aNil))) mNil))))) [.sh (.list (c.map pcD)), .sh (.list (d.map pcD)), .ow ((btw c d).map pcD), .sh (.str ⟨(eN (btw c d) (L + 1)).toArray⟩)]).bind _ = _
  generalize pCall fn_times_in (aCons false (pVar 3) (aCons false (pVar 0) aNil)) = f1 at q2 ⊢
  generalize pCall fn_times_in (aCons false (pVar 3) (aCons false (pVar 1) aNil)) = f2 at q3 ⊢
  simp only [pRet, normX, pTupM, mCons, pVar, List.getElem?_cons_succ, List.getElem?_cons_zero, takeP, mNil, Option.map_some, Option.bind_some, q2, q3, List.length_cons, List.length_nil, Nat.zero_add, Nat.reduceAdd, Nat.reduceLeDiff, if_true, List.all_cons, isFl, List.all_nil, Bool.and_true, List.map_cons, Pt.val, List.map_nil, outS, Clean, flat, flatA, ansD]
theorem two_apart {c d : List Pc} {L : Nat} (hT : Tells (btw c d) L) : NH.picks (eN (btw c d) (L + 1)) c ≠ NH.picks (eN (btw c d) (L + 1)) d := by
  have hu0 := (NH.short_red (NH.contr c ++ d)).unlike
  have hu : NH.Unlike (eN (btw c d) (L + 1)) := unlike_drop _ _ hu0
  rw [← NH.times_picks c _ hu, ← NH.times_picks d _ hu]
  have lw := eN_len (btw c d) (show L + 1 ≤ (btw c d).length from hT.1)
  have ne : eN (btw c d) (L + 1) ≠ [] := fun z => by rw [z] at lw; simp at lw
  refine fun z => NH.told_apart ne ?_ (fun u v e hu1 hv => ?_) z.symm
  · rw [← NH.times_short, NH.times_picks _ _ hu]
    have := hT.2.1
    unfold pN at this
    rw [List.drop_zero] at this
    exact this
  · have lu : 0 < u.length := List.length_pos_iff.mpr hu1
    have lv : 0 < v.length := List.length_pos_iff.mpr hv
    have luv : u.length + v.length = L + 1 := by rw [← lw, e, List.length_append]
    have ev : v = eN (btw c d) v.length := by
      have h1 : v = (eN (btw c d) (L + 1)).drop u.length := by rw [e, List.drop_left]
      have hb := hT.1
      unfold eN at h1 ⊢
      rw [List.drop_drop] at h1
      rw [show (btw c d).length - v.length = (btw c d).length - (L + 1) + u.length by omega]
      exact h1
    rw [← NH.times_short, NH.times_picks _ _ (by rw [ev]; exact unlike_drop _ _ hu0)]
    have := hT.2.2 (v.length - 1) (by omega)
    unfold pN at this
    rw [List.drop_zero, show v.length - 1 + 1 = v.length by omega, ← ev] at this
    exact this
theorem pc_due : ∀ (c : List Pc) (x0 x1 : Sl), cLoop t_law_due_C0 tYesP e_law_due_C0 (c.map pcD) [x0, x1] = some ((c.map (·.1)).map fun a => (.str ⟨#[a]⟩ : PyData))
  | [], x0, x1 => rfl
  | p :: c, x0, x1 => by
    have e : (t_law_due_C0 (pcD p) [x0, x1]) = some [.sh (.str ⟨#[p.1]⟩), .sh (.int p.2)] := rfl
    have e2 : e_law_due_C0 [.sh (.str ⟨#[p.1]⟩), .sh (.int p.2)] = some (.sh (.str ⟨#[p.1]⟩), [.sh (.str ⟨#[p.1]⟩), .sh (.int p.2)]) := rfl
    rw [List.map_cons, cLoop, e, Option.bind_some]
    simp only [tYesP, frz, Option.bind_some, e2, pc_due c, Option.map_some, if_true, List.map_cons]
theorem due_first (c d : List Pc) (h : Two c d) : pSet 2 (pCall fn_law_runs (aCons false (pBin pAdd false (pCall fn_law_contrary (aCons false (pVar 0) aNil)) (pVar 1)) aNil)) [.sh (.list (c.map pcD)), .sh (.list (d.map pcD)), .no, .no, .no, .no] = some ([.sh (.list (c.map pcD)), .sh (.list (d.map pcD)), .ow ((btw c d).map pcD), .no, .no, .no], .nx) := by
  have := h.lc
  have := h.ld
  have e1 := pv_law_contrary c (by omega)
  have e2 := pv_law_runs (NH.contr c ++ d) (by rw [List.length_append, NH.contr_length]; omega) (h.oc.contr.append h.od).n
  rw [← NH.short_eq_runs] at e2
  have q1 : pCall fn_law_contrary (aCons false (pVar 0) aNil) [.sh (.list (c.map pcD)), .sh (.list (d.map pcD)), .no, .no, .no, .no] = some (.ow ((NH.contr c).map pcD), [.sh (.list (c.map pcD)), .sh (.list (d.map pcD)), .no, .no, .no, .no]) := call_at rfl rfl e1
  have lb : (NH.contr c).length + d.length ≤ 1000000 := by rw [NH.contr_length]; omega
  have q2 : pBin pAdd false (pCall fn_law_contrary (aCons false (pVar 0) aNil)) (pVar 1) [.sh (.list (c.map pcD)), .sh (.list (d.map pcD)), .no, .no, .no, .no] = some (.ow ((NH.contr c ++ d).map pcD), [.sh (.list (c.map pcD)), .sh (.list (d.map pcD)), .no, .no, .no, .no]) := by
    generalize pCall fn_law_contrary (aCons false (pVar 0) aNil) = f at q1 ⊢
    simp only [pBin, q1, Sl.isBr, Bool.false_and, Bool.false_eq_true, pVar, pAdd, look, Sl.val, hot, hot1, if_false, Option.bind_some, List.getElem?_cons_succ, List.getElem?_cons_zero, Bool.not_false, Bool.true_or, Bool.and_true, List.length_map, lb, decide_true, ← List.map_append, if_true]
  have q3 : pCall fn_law_runs (aCons false (pBin pAdd false (pCall fn_law_contrary (aCons false (pVar 0) aNil)) (pVar 1)) aNil) [.sh (.list (c.map pcD)), .sh (.list (d.map pcD)), .no, .no, .no, .no] = some (.ow ((btw c d).map pcD), [.sh (.list (c.map pcD)), .sh (.list (d.map pcD)), .no, .no, .no, .no]) := by
    refine call_at (ss := [.ow ((NH.contr c ++ d).map pcD)]) ?_ rfl e2
    rw [aCons, q2]
    rfl
  unfold pSet
  rw [q3]
  rfl
theorem due_second (x0 x1 : Sl) (r : List Pc) (hr : r.length ≤ 90) : pSet 3 (pJoin "" (pComp [none, none] (iAny (pVar 2)) t_law_due_C0 tYesP e_law_due_C0)) [x0, x1, .ow (r.map pcD), .no, .no, .no] = some ([x0, x1, .sh (.list (r.map pcD)), .sh (.str ⟨(r.map (·.1)).toArray⟩), .no, .no], .nx) ∨ pSet 3 (pJoin "" (pComp [none, none] (iAny (pVar 2)) t_law_due_C0 tYesP e_law_due_C0)) [x0, x1, .ow (r.map pcD), .no, .no, .no] = some ([x0, x1, .ow (r.map pcD), .sh (.str ⟨(r.map (·.1)).toArray⟩), .no, .no], .nx) := by
  have l := len_strs (r.map (·.1))
  have l2 : ((r.map (·.1)).map fun a => (.str ⟨#[a]⟩ : PyData)).length ≤ 1000000 := by simp; omega
  have l3 : (r.map (·.1)).length ≤ 1000000 := by simp; omega
  have k := pc_due r .no .no
  first
  | refine Or.inl ?_
    simp only [pSet, pJoin, pUn, pComp, iAny, pVar, List.getElem?_cons_succ, List.getElem?_cons_zero, frz, Option.bind_some, List.set_cons_succ, List.set_cons_zero, slotsE, List.map_cons, slotE, List.map_nil, k, flat_strs, l2, decide_true, Bool.and_true, if_true, look, Sl.val, dJoin, strs_pc, l, l3, join_strs, Option.map_some, PL.settle, frzAll, List.length_cons, List.length_nil, Nat.zero_add, Nat.reduceAdd, Nat.reduceLT]
    done
  | refine Or.inr ?_
    simp only [slotsE, slotE, pComp, fnB, runB, startE, Clean, flat, flatA, pSeq, pNext, pBreak, pCont, pExpr, pRetN, pRet, pIfS, pSet, PL.settle, Sl.isAl, Sl.isBr, frz, pVar, pC, pBin, pAdd, pSub, pMul, pFdiv, pMod, pPow, pEq, pNe, pIx, pUn, dNeg, dNot, sc2, iOp, iCmp, dIsN, look, lookA, Sl.val, hot, hot1, isB, pTru, dTru, tAndP, tOrP, tNotP, pAndV, pOrV, pIf, aNil, aCons, dNil, dCons, pTup, pLst, pCaS, dLen, dAbs, dMin, dMax, pLstOf, dIsi, tyD, Ty.is, oNone, oSome, pSl, pChain, pCall, pAppend, pPop, pAsg, pSetIx, gNameP, gNilP, gConsP, gTupP, iLst, iRevP, iRng1P, iRng2P, pFor, List.length_cons, List.length_nil, List.map_cons, List.map_nil, List.replicate, List.cons_append, List.nil_append, List.getElem?_cons_zero, List.getElem?_cons_succ, List.set_cons_zero, List.set_cons_succ, List.isEmpty_nil, List.isEmpty_cons, Option.bind_some, Option.bind_none, Option.map_some, Option.map_none, Option.any_some, Nat.sub_self, Nat.zero_add, Nat.reduceAdd, Nat.reduceSub, Nat.reduceLT, Nat.reduceLeDiff, if_true, if_false, ite_true, ite_false, Bool.false_and, Bool.and_false, Bool.true_and, Bool.and_true, Bool.true_or, Bool.or_true, Bool.false_or, Bool.or_false, Bool.not_true, Bool.not_false, Bool.false_eq_true, reduceIte, decide_true, decide_false, atI_0, atI_1, atI_2, atI_lst, get_lst, emp_lst, List.map_append, List.dropLast_concat, flatA_append, flatA_pc, flatA_int, flatA_str, flat_pc, cutD_map, outS, frzSl, frzAll, iAny, iZipP, iEnumP, dCmp, Cm.i, Cm.s, pCut, pShr, pShl, pAnd, pIn, dIn, dInt, pJoin, pExtend, pReverse, pCallIO, dEq_int, dEq_str, dEq_bool, str1_eq, eq_self, not_true_eq_false, not_false_eq_true, Int.cast_ofNat_Int, PL.takeP, mNil, mCons, pTupM, normX, isFl, ptSl, pAppTx, Pt.val, List.all_cons, List.all_nil, pAug, dAddS, dSubS, dMulS, dFdivS, dModS, ofD, Option.isSome_some, iRng3P, dLt, dAny, dAll, dSum, pSorted, pTupOf, pTupB, pCutT, iKeep, dInts, Int.reduceLT, Int.reduceLE, Int.reduceEq, Int.reduceNe, Int.reduceNeg, Int.reduceAdd, Int.reduceSub, Int.reduceMul, Int.reduceToNat, Int.reducePow, Nat.reducePow, and_self, k, flat_strs, l2, dJoin, strs_pc, l, l3, join_strs]
    done
theorem st_due (c d : List Pc) (h : Two c d) (s2 : Sl) (hs : IsC s2 (btw c d)) (a b : Sl) (l : Nat) (hl : l < (btw c d).length) :
    (t_law_due_L1 (.int ((l : Int) + 1)) [.sh (.list (c.map pcD)), .sh (.list (d.map pcD)), s2, .sh (.str ⟨((btw c d).map (·.1)).toArray⟩), a, b]).bind g_law_due_L1 = some ([.sh (.list (c.map pcD)), .sh (.list (d.map pcD)), s2, .sh (.str ⟨((btw c d).map (·.1)).toArray⟩), .sh (.int ((l : Int) + 1)), .sh (.str ⟨(eN (btw c d) (l + 1)).toArray⟩)], if pN (btw c d) (l + 1) 0 = 0 then .nx else .rt (.sh (ansD c d l))) := by
  have lb := h.lb
  have hc := h.lc
  have hd := h.ld
  have ml : ((btw c d).map (·.1)).length = (btw c d).length := List.length_map ..
  have lw := eN_len (btw c d) (show l + 1 ≤ (btw c d).length by omega)
  have p0 := pv_law_picks (eN (btw c d) (l + 1)) (btw c d) (by omega) h.mb
  have p1 := pv_law_picks (eN (btw c d) (l + 1)) c (by omega) (cord_magb h.oc (by omega))
  have p2 := pv_law_picks (eN (btw c d) (l + 1)) d (by omega) (cord_magb h.od (by omega))
  have pe : NH.picks (eN (btw c d) (l + 1)) (btw c d) = pN (btw c d) (l + 1) 0 := by unfold pN; rw [List.drop_zero]
  rw [pe] at p0
  have sd : Txt.slice (⟨((btw c d).map (·.1)).toArray⟩ : Str) (some (((btw c d).length : Int) - ((l : Int) + 1))) none = ⟨(eN (btw c d) (l + 1)).toArray⟩ := by
    rw [show ((btw c d).length : Int) - ((l : Int) + 1) = (((btw c d).length - (l + 1) : Nat) : Int) by omega]
    exact slice_drop _ _ (by rw [ml]; omega)
  have lx : (btw c d).length ≤ 1000000 := by omega
  have s5 : pSet 5 (pCut false (pVar 3) (oSome (pBin pSub false (pCaS dLen (aCons false (pVar 3) aNil)) (pVar 4))) oNone) [.sh (.list (c.map pcD)), .sh (.list (d.map pcD)), s2, .sh (.str ⟨((btw c d).map (·.1)).toArray⟩), .sh (.int ((l : Int) + 1)), b] = some ([.sh (.list (c.map pcD)), .sh (.list (d.map pcD)), s2, .sh (.str ⟨((btw c d).map (·.1)).toArray⟩), .sh (.int ((l : Int) + 1)), .sh (.str ⟨(eN (btw c d) (l + 1)).toArray⟩)], .nx) := by
    simp only [pSet, pCut, pVar, List.getElem?_cons_succ, List.getElem?_cons_zero, Sl.isBr, Bool.false_and, Bool.false_eq_true, oSome, pBin, pCaS, aCons, aNil, Option.map_some, if_false, dLen, pSub, sc2, look, Sl.val, iOp, if_true, oNone, hot, hot1, Option.bind_some, lookA, len_wr, ml, lx, sd, PL.settle, frz, frzAll, List.length_cons, List.length_nil, Nat.zero_add, Nat.reduceAdd, Nat.reduceLT, List.set_cons_succ, List.set_cons_zero]
  have q0 : pCall fn_law_picks (aCons false (pVar 5) (aCons false (pVar 2) aNil)) [.sh (.list (c.map pcD)), .sh (.list (d.map pcD)), s2, .sh (.str ⟨((btw c d).map (·.1)).toArray⟩), .sh (.int ((l : Int) + 1)), .sh (.str ⟨(eN (btw c d) (l + 1)).toArray⟩)] = some (.sh (.int (pN (btw c d) (l + 1) 0)), [.sh (.list (c.map pcD)), .sh (.list (d.map pcD)), s2, .sh (.str ⟨((btw c d).map (·.1)).toArray⟩), .sh (.int ((l : Int) + 1)), .sh (.str ⟨(eN (btw c d) (l + 1)).toArray⟩)]) := by
    rcases hs with rfl | rfl
    · exact call_at rfl rfl p0
    · exact call_at rfl rfl p0
  have q1 : pCall fn_law_picks (aCons false (pVar 5) (aCons false (pVar 0) aNil)) [.sh (.list (c.map pcD)), .sh (.list (d.map pcD)), s2, .sh (.str ⟨((btw c d).map (·.1)).toArray⟩), .sh (.int ((l : Int) + 1)), .sh (.str ⟨(eN (btw c d) (l + 1)).toArray⟩)] = some (.sh (.int (NH.picks (eN (btw c d) (l + 1)) c)), [.sh (.list (c.map pcD)), .sh (.list (d.map pcD)), s2, .sh (.str ⟨((btw c d).map (·.1)).toArray⟩), .sh (.int ((l : Int) + 1)), .sh (.str ⟨(eN (btw c d) (l + 1)).toArray⟩)]) := call_at rfl rfl p1
  have q2 : pCall fn_law_picks (aCons false (pVar 5) (aCons false (pVar 1) aNil)) [.sh (.list (c.map pcD)), .sh (.list (d.map pcD)), s2, .sh (.str ⟨((btw c d).map (·.1)).toArray⟩), .sh (.int ((l : Int) + 1)), .sh (.str ⟨(eN (btw c d) (l + 1)).toArray⟩)] = some (.sh (.int (NH.picks (eN (btw c d) (l + 1)) d)), [.sh (.list (c.map pcD)), .sh (.list (d.map pcD)), s2, .sh (.str ⟨((btw c d).map (·.1)).toArray⟩), .sh (.int ((l : Int) + 1)), .sh (.str ⟨(eN (btw c d) (l + 1)).toArray⟩)]) := call_at rfl rfl p2
  have q3 := bin_ne q0 (f := pC (.int 0)) (y := 0) rfl
  have tg : t_law_due_L1 (.int ((l : Int) + 1)) [.sh (.list (c.map pcD)), .sh (.list (d.map pcD)), s2, .sh (.str ⟨((btw c d).map (·.1)).toArray⟩), a, b] = some [.sh (.list (c.map pcD)), .sh (.list (d.map pcD)), s2, .sh (.str ⟨((btw c d).map (·.1)).toArray⟩), .sh (.int ((l : Int) + 1)), b] := rfl
  have t3 : isB (pBin pNe false (pCall fn_law_picks (aCons false (pVar 5) (aCons false (pVar 2) aNil))) (pC (.int 0))) [.sh (.list (c.map pcD)), .sh (.list (d.map pcD)), s2, .sh (.str ⟨((btw c d).map (·.1)).toArray⟩), .sh (.int ((l : Int) + 1)), .sh (.str ⟨(eN (btw c d) (l + 1)).toArray⟩)] = some (!decide (pN (btw c d) (l + 1) 0 = 0), [.sh (.list (c.map pcD)), .sh (.list (d.map pcD)), s2, .sh (.str ⟨((btw c d).map (·.1)).toArray⟩), .sh (.int ((l : Int) + 1)), .sh (.str ⟨(eN (btw c d) (l + 1)).toArray⟩)]) := by
    unfold isB
    rw [q3]
    rfl
  rw [tg, Option.bind_some, g_law_due_L1, seq_nx s5]
  by_cases z : pN (btw c d) (l + 1) 0 = 0
  · rw [if_pos z]
    rw [decide_eq_true z] at t3
    exact if_no t3 rfl
  · rw [if_neg z]
    rw [decide_eq_false z] at t3
    refine if_yes t3 ?_
    generalize pCall fn_law_picks (aCons false (pVar 5) (aCons false (pVar 0) aNil)) = f1 at q1 ⊢
    generalize pCall fn_law_picks (aCons false (pVar 5) (aCons false (pVar 1) aNil)) = f2 at q2 ⊢
    simp only [pRet, normX, pTupM, mCons, pVar, List.getElem?_cons_succ, List.getElem?_cons_zero, takeP, mNil, Option.map_some, Option.bind_some, q1, q2, List.length_cons, List.length_nil, Nat.zero_add, Nat.reduceAdd, Nat.reduceLeDiff, if_true, List.all_cons, isFl, List.all_nil, Bool.and_true, List.map_cons, Pt.val, List.map_nil, ansD]
theorem pl_due (c d : List Pc) (h : Two c d) (s2 : Sl) (hs : IsC s2 (btw c d)) (L : Nat) (hT : Tells (btw c d) L) : ∀ (m l n : Nat) (a b : Sl), l + m = L → l + n = (btw c d).length → ∃ E, pLoop t_law_due_L1 g_law_due_L1 (rngD ((l : Int) + 1) n) [.sh (.list (c.map pcD)), .sh (.list (d.map pcD)), s2, .sh (.str ⟨((btw c d).map (·.1)).toArray⟩), a, b] = some (E, .rt (.sh (ansD c d L))) := fun m => by
  have hL := hT.1
  induction m with
  | zero =>
    intro l n a b e1 e2
    have : l = L := by omega
    subst this
    obtain ⟨n, rfl⟩ : ∃ k, n = k + 1 := ⟨n - 1, by omega⟩
    have s := st_due c d h s2 hs a b l hL
    rw [if_neg hT.2.1] at s
    exact ⟨[.sh (.list (c.map pcD)), .sh (.list (d.map pcD)), s2, .sh (.str ⟨((btw c d).map (·.1)).toArray⟩), .sh (.int ((l : Int) + 1)), .sh (.str ⟨(eN (btw c d) (l + 1)).toArray⟩)], by rw [rngD_succ, pLoop, s]; rfl⟩
  | succ m ih =>
    intro l n a b e1 e2
    obtain ⟨n, rfl⟩ : ∃ k, n = k + 1 := ⟨n - 1, by omega⟩
    have s := st_due c d h s2 hs a b l (by omega)
    rw [if_pos (hT.2.2 l (by omega))] at s
    obtain ⟨E, i⟩ := ih (l + 1) n (.sh (.int ((l : Int) + 1))) (.sh (.str ⟨(eN (btw c d) (l + 1)).toArray⟩)) (by omega) (by omega)
    rw [show ((l + 1 : Nat) : Int) = (l : Int) + 1 by omega] at i
    refine ⟨E, ?_⟩
    rw [rngD_succ, pLoop, s]
    exact i
theorem due_head (c d : List Pc) (h : Two c d) : ∃ s2, IsC s2 (btw c d) ∧ ∀ r : PSv, pSeq (pSet 2 (pCall fn_law_runs (aCons false (pBin pAdd false (pCall fn_law_contrary (aCons false (pVar 0) aNil)) (pVar 1)) aNil))) (pSeq (pSet 3 (pJoin "" (pComp [none, none] (iAny (pVar 2)) t_law_due_C0 tYesP e_law_due_C0))) r) [.sh (.list (c.map pcD)), .sh (.list (d.map pcD)), .no, .no, .no, .no] = r [.sh (.list (c.map pcD)), .sh (.list (d.map pcD)), s2, .sh (.str ⟨((btw c d).map (·.1)).toArray⟩), .no, .no] := by
  have s := due_first c d h
  rcases due_second (.sh (.list (c.map pcD))) (.sh (.list (d.map pcD))) (btw c d) h.lb with q | q
  · exact ⟨_, Or.inl rfl, fun r => by rw [seq_nx s, seq_nx q]⟩
  · exact ⟨_, Or.inr rfl, fun r => by rw [seq_nx s, seq_nx q]⟩
theorem due_it (c d : List Pc) (h : Two c d) (s2 : Sl) : iRng2P (aCons false (pC (.int 1)) (aCons false (pBin pAdd false (pCaS dLen (aCons false (pVar 3) aNil)) (pC (.int 1))) aNil)) [.sh (.list (c.map pcD)), .sh (.list (d.map pcD)), s2, .sh (.str ⟨((btw c d).map (·.1)).toArray⟩), .no, .no] = some (rngD 1 (btw c d).length, [.sh (.list (c.map pcD)), .sh (.list (d.map pcD)), s2, .sh (.str ⟨((btw c d).map (·.1)).toArray⟩), .no, .no]) := by
  have lb := h.lb
  have ml : ((btw c d).map (·.1)).length = (btw c d).length := List.length_map ..
  have lx : (btw c d).length ≤ 1000000 := by omega
  have h1 : (aCons false (pC (.int 1)) (aCons false (pBin pAdd false (pCaS dLen (aCons false (pVar 3) aNil)) (pC (.int 1))) aNil)) [.sh (.list (c.map pcD)), .sh (.list (d.map pcD)), s2, .sh (.str ⟨((btw c d).map (·.1)).toArray⟩), .no, .no] = some ([.sh (.int 1), .sh (.int (((btw c d).length : Int) + 1))], [.sh (.list (c.map pcD)), .sh (.list (d.map pcD)), s2, .sh (.str ⟨((btw c d).map (·.1)).toArray⟩), .no, .no]) := by
    simp only [aCons, pC, Sl.isBr, Bool.false_and, Bool.false_eq_true, pBin, pCaS, pVar, aNil, Option.map_some, if_false, dLen, pAdd, look, Sl.val, hot, hot1, Option.bind_some, Bool.not_false, Bool.true_or, Bool.and_true, List.getElem?_cons_succ, List.getElem?_cons_zero, lookA, len_wr, ml, lx, if_true]
  have hi := rng2_at h1 rfl (by omega)
  rw [show (((btw c d).length : Int) + 1 - 1).toNat = (btw c d).length by omega] at hi
  exact hi
theorem pv_due (c d : List Pc) (h : Two c d) (L : Nat) (hT : Tells (btw c d) L) : fn_law_due [.list (c.map pcD), .list (d.map pcD)] = some (.sh (ansD c d L)) := by
  obtain ⟨s2, hs, hd⟩ := due_head c d h
  obtain ⟨E, e⟩ := pl_due c d h s2 hs L hT L 0 (btw c d).length .no .no (by omega) (by omega)
  simp only [Int.natCast_zero, Int.zero_add] at e
  have it := due_it c d h s2
  have g : fn_law_due [.list (c.map pcD), .list (d.map pcD)] = (g_law_due [.sh (.list (c.map pcD)), .sh (.list (d.map pcD)), .no, .no, .no, .no]).bind fun a => match a.2 with | .rt r => outS r | .nx => some (.sh .none) | _ => none := rfl
  rw [g, g_law_due, hd]
  unfold pSeq pFor
  rw [it, Option.bind_some]
  show ((pLoop t_law_due_L1 g_law_due_L1 (rngD 1 (btw c d).length) [.sh (.list (c.map pcD)), .sh (.list (d.map pcD)), s2, .sh (.str ⟨((btw c d).map (·.1)).toArray⟩), .no, .no]).bind _).bind _ = _
  rw [e]
  rfl
theorem pv_due_none (c d : List Pc) (h : Two c d) (h0 : btw c d = []) : fn_law_due [.list (c.map pcD), .list (d.map pcD)] = some (.sh .none) := by
  obtain ⟨s2, hs, hd⟩ := due_head c d h
  have it := due_it c d h s2
  have g : fn_law_due [.list (c.map pcD), .list (d.map pcD)] = (g_law_due [.sh (.list (c.map pcD)), .sh (.list (d.map pcD)), .no, .no, .no, .no]).bind fun a => match a.2 with | .rt r => outS r | .nx => some (.sh .none) | _ => none := rfl
  rw [g, g_law_due, hd]
  unfold pSeq pFor
  rw [it, Option.bind_some]
  rw [h0]
  rfl
theorem pv_law_second (c : List Pc) (ns : List Int) (h : Nat) (hn : ns.length ≤ 63) (hl : c.length ≤ 40) (hc : CordOk c) : ∃ c' : List Pc, fn_law_second [.list (c.map pcD), .list (ns.map .int), .int h] = some (.ow (c'.map pcD)) ∧ c'.length ≤ 42 ∧ CordOk c' := by
  have ea := pv_law_at ns h
  obtain ⟨c2, e2, l2, n2⟩ := pv_law_cord ns h 63 40 (by omega) (by decide) (by decide) hn
  generalize ns.getD h 0 = cell at ea
  have hp : 0 < (c.length : Int) + 1 := by omega
  have k0 : 0 ≤ cell / 5 % ((c.length : Int) + 1) := Int.emod_nonneg _ (by omega)
  have k1 : cell / 5 % ((c.length : Int) + 1) < (c.length : Int) + 1 := Int.emod_lt_of_pos _ (by omega)
  generalize hk : cell / 5 % ((c.length : Int) + 1) = k at k0 k1
  have t0 := Int.emod_nonneg (cell / 1200) (show (9 : Int) ≠ 0 by decide)
  have t1 := Int.emod_lt_of_pos (cell / 1200) (show (0 : Int) < 9 by decide)
  generalize ht : cell / 1200 % 9 = t at t0 t1
  have dd : okDiv 5 = true ∧ okDiv 300 = true ∧ okDiv 1200 = true := by decide
  have ct := cutL_take c k0
  have cd := cutL_drop c k0
  have cd1 : cutL c (some (k + 1)) none = c.drop (k.toNat + 1) := by rw [cutL_drop c (by omega), show (k + 1).toNat = k.toNat + 1 by omega]
  have l1 : (c.take k.toNat).length ≤ c.length := by simp; omega
  have l3 : (c.drop (k.toNat + 1)).length ≤ (c.drop k.toNat).length := by simp; omega
  have lt : (c.take k.toNat).length + (c.drop k.toNat).length = c.length := by rw [← List.length_append, List.take_append_drop]
  have oT : CordOk (c.take k.toNat) := fun p hp => hc p (List.mem_of_mem_take hp)
  have oD : CordOk (c.drop k.toNat) := fun p hp => hc p (List.mem_of_mem_drop hp)
  have oD1 : CordOk (c.drop (k.toNat + 1)) := fun p hp => hc p (List.mem_of_mem_drop hp)
  have o1 : CordOk [(l4 (cell / 300 % 4), t - 4)] := fun p hp => by rw [List.mem_singleton.mp hp]; exact ⟨l4_ok _, by show (t - 4).natAbs < 2 ^ 100; omega⟩
  have o2 : CordOk [(l4 (cell / 300 % 4), 0 - (t - 4))] := fun p hp => by rw [List.mem_singleton.mp hp]; exact ⟨l4_ok _, by show (0 - (t - 4)).natAbs < 2 ^ 100; omega⟩
  have b1 : (c.take k.toNat).length + 1 ≤ 1000000 := by omega
  have b2 : (c.take k.toNat).length + 1 + (c.drop k.toNat).length ≤ 1000000 := by omega
  have b3 : (c.take k.toNat).length + 1 + (c.drop (k.toNat + 1)).length ≤ 1000000 := by omega
  have b4 : (c.take k.toNat).length + (c.drop (k.toNat + 1)).length ≤ 1000000 := by omega
  have b5 : (c.take k.toNat).length + 2 ≤ 1000000 := by omega
  have b6 : (c.take k.toNat).length + 2 + (c.drop k.toNat).length ≤ 1000000 := by omega
  by_cases m0 : cell % 5 = 0
  · refine ⟨c2, ?_, by omega, n2⟩
    simp only [fn_law_second, fnB, List.length_cons, List.length_nil, Nat.zero_add, Nat.reduceAdd, runB, g_law_second, pSeq, pSet, pCall, aCons, pVar, startE, List.map_cons, List.map_nil, Nat.reduceSub, List.replicate, List.cons_append, List.nil_append, List.getElem?_cons_succ, List.getElem?_cons_zero, Sl.isBr, Bool.false_and, Bool.false_eq_true, aNil, Option.map_some, if_false, Option.bind_some, lookA, look, Sl.val, ea, PL.settle, frz, frzAll, Nat.reduceLT, List.set_cons_succ, List.set_cons_zero, if_true, pBin, pC, pFdiv, sc2, iOp, pCaS, dLen, pAdd, hot, hot1, Bool.not_false, Bool.true_or, Bool.and_true, pMod, pTup, dCons, pIx, len_abcz, pSub, dNil, pIfS, isB, pEq, pRet, pNext, pCut, oNone, oSome, pLst, dd.1, List.length_map, hp, decide_true, hk, dd.2.1, Int.reduceLT, abcz_m, dd.2.2, ht, Nat.reduceLeDiff, m0, dEq_int, e2, outS, Clean, flatA_pc]
  · by_cases m1 : cell % 5 = 1
    · refine ⟨c.take k.toNat ++ [(l4 (cell / 300 % 4), t - 4)] ++ c.drop k.toNat, ?_, ?_, (oT.append o1).append oD⟩
      · simp only [fn_law_second, fnB, List.length_cons, List.length_nil, Nat.zero_add, Nat.reduceAdd, runB, g_law_second, pSeq, pSet, pCall, aCons, pVar, startE, List.map_cons, List.map_nil, Nat.reduceSub, List.replicate, List.cons_append, List.nil_append, List.getElem?_cons_succ, List.getElem?_cons_zero, Sl.isBr, Bool.false_and, Bool.false_eq_true, aNil, Option.map_some, if_false, Option.bind_some, lookA, look, Sl.val, ea, PL.settle, frz, frzAll, Nat.reduceLT, List.set_cons_succ, List.set_cons_zero, if_true, pBin, pC, pFdiv, sc2, iOp, pCaS, dLen, pAdd, hot, hot1, Bool.not_false, Bool.true_or, Bool.and_true, pMod, pTup, dCons, pIx, len_abcz, pSub, dNil, pIfS, isB, pEq, pRet, pNext, pCut, oNone, oSome, pLst, dd.1, List.length_map, hp, decide_true, hk, dd.2.1, Int.reduceLT, abcz_m, dd.2.2, ht, Nat.reduceLeDiff, m1, dEq_int, Int.reduceEq, decide_false, cutD_map, flatA_pc, Bool.or_true, ct, b1, cd, List.length_append, b2, outS, Clean, flatA_append, flatA, flat, List.map_append]
        simp [pcD]
      · rw [List.length_append, List.length_append]
        simp only [List.length_cons, List.length_nil]
        omega
    · by_cases m2 : cell % 5 = 2
      · refine ⟨c.take k.toNat ++ [(l4 (cell / 300 % 4), t - 4)] ++ c.drop (k.toNat + 1), ?_, ?_, (oT.append o1).append oD1⟩
        · simp only [fn_law_second, fnB, List.length_cons, List.length_nil, Nat.zero_add, Nat.reduceAdd, runB, g_law_second, pSeq, pSet, pCall, aCons, pVar, startE, List.map_cons, List.map_nil, Nat.reduceSub, List.replicate, List.cons_append, List.nil_append, List.getElem?_cons_succ, List.getElem?_cons_zero, Sl.isBr, Bool.false_and, Bool.false_eq_true, aNil, Option.map_some, if_false, Option.bind_some, lookA, look, Sl.val, ea, PL.settle, frz, frzAll, Nat.reduceLT, List.set_cons_succ, List.set_cons_zero, if_true, pBin, pC, pFdiv, sc2, iOp, pCaS, dLen, pAdd, hot, hot1, Bool.not_false, Bool.true_or, Bool.and_true, pMod, pTup, dCons, pIx, len_abcz, pSub, dNil, pIfS, isB, pEq, pRet, pNext, pCut, oNone, oSome, pLst, dd.1, List.length_map, hp, decide_true, hk, dd.2.1, Int.reduceLT, abcz_m, dd.2.2, ht, Nat.reduceLeDiff, m2, dEq_int, Int.reduceEq, decide_false, cutD_map, flatA_pc, Bool.or_true, ct, b1, List.length_append, cd1, b3, outS, Clean, flatA_append, flatA, flat, List.map_append]
          simp [pcD]
        · rw [List.length_append, List.length_append]
          simp only [List.length_cons, List.length_nil]
          omega
      · by_cases m3 : cell % 5 = 3
        · refine ⟨c.take k.toNat ++ c.drop (k.toNat + 1), ?_, ?_, oT.append oD1⟩
          · simp only [fn_law_second, fnB, List.length_cons, List.length_nil, Nat.zero_add, Nat.reduceAdd, runB, g_law_second, pSeq, pSet, pCall, aCons, pVar, startE, List.map_cons, List.map_nil, Nat.reduceSub, List.replicate, List.cons_append, List.nil_append, List.getElem?_cons_succ, List.getElem?_cons_zero, Sl.isBr, Bool.false_and, Bool.false_eq_true, aNil, Option.map_some, if_false, Option.bind_some, lookA, look, Sl.val, ea, PL.settle, frz, frzAll, Nat.reduceLT, List.set_cons_succ, List.set_cons_zero, if_true, pBin, pC, pFdiv, sc2, iOp, pCaS, dLen, pAdd, hot, hot1, Bool.not_false, Bool.true_or, Bool.and_true, pMod, pTup, dCons, pIx, len_abcz, pSub, dNil, pIfS, isB, pEq, pRet, pNext, pCut, oNone, oSome, pLst, dd.1, List.length_map, hp, decide_true, hk, dd.2.1, Int.reduceLT, abcz_m, dd.2.2, ht, Nat.reduceLeDiff, m3, dEq_int, Int.reduceEq, decide_false, cutD_map, flatA_pc, Bool.or_true, ct, cd1, b4, outS, Clean, flatA_append, List.map_append]
          · rw [List.length_append]
            omega
        · refine ⟨c.take k.toNat ++ [(l4 (cell / 300 % 4), t - 4), (l4 (cell / 300 % 4), 0 - (t - 4))] ++ c.drop k.toNat, ?_, ?_, (oT.append (o1.append o2)).append oD⟩
          · simp only [fn_law_second, fnB, List.length_cons, List.length_nil, Nat.zero_add, Nat.reduceAdd, runB, g_law_second, pSeq, pSet, pCall, aCons, pVar, startE, List.map_cons, List.map_nil, Nat.reduceSub, List.replicate, List.cons_append, List.nil_append, List.getElem?_cons_succ, List.getElem?_cons_zero, Sl.isBr, Bool.false_and, Bool.false_eq_true, aNil, Option.map_some, if_false, Option.bind_some, lookA, look, Sl.val, ea, PL.settle, frz, frzAll, Nat.reduceLT, List.set_cons_succ, List.set_cons_zero, if_true, pBin, pC, pFdiv, sc2, iOp, pCaS, dLen, pAdd, hot, hot1, Bool.not_false, Bool.true_or, Bool.and_true, pMod, pTup, dCons, pIx, len_abcz, pSub, dNil, pIfS, isB, pEq, pRet, pNext, pCut, oNone, oSome, pLst, dd.1, List.length_map, hp, decide_true, hk, dd.2.1, Int.reduceLT, abcz_m, dd.2.2, ht, Nat.reduceLeDiff, dEq_int, m0, decide_false, m1, cutD_map, flatA_pc, Bool.or_true, ct, m2, m3, atI_0, atI_1, b5, cd, List.length_append, b6, outS, Clean, flatA_append, flatA, flat, List.map_append]
            simp [pcD]
          · rw [List.length_append, List.length_append]
            simp only [List.length_cons, List.length_nil]
            omega
theorem dEq_two {c d : List Pc} (hc : NailsOk c) (hd : NailsOk d) : dEq (.list [.list (c.map pcD), .list (d.map pcD)]) (.list [.list (c.map pcD), .list (d.map pcD)]) = some true := by
  have e : ∀ x : PyData, dEq (.list [.list (c.map pcD), .list (d.map pcD)]) (.list [.list (c.map pcD), .list (d.map pcD)]) = (if SeqAt.shaped (.list [.list (c.map pcD), .list (d.map pcD)]) && SeqAt.shaped (.list [.list (c.map pcD), .list (d.map pcD)]) then some (PyData.eqv (.list [.list (c.map pcD), .list (d.map pcD)]) (.list [.list (c.map pcD), .list (d.map pcD)])) else none) := fun _ => rfl
  have q1 := cord_lay hc
  have q2 := cord_lay hd
  have sh : SeqAt.shaped (.list [.list (c.map pcD), .list (d.map pcD)]) = true := by
    unfold SeqAt.shaped
    simp only [PyData.canLay0, PyData.canLayAll0, PyData.depth, PyData.depthAll, q1.1, q2.1, Bool.and_true, Bool.true_and]
    have h1 := q1.2
    have h2 := q2.2
    exact decide_eq_true (by omega)
  rw [e .none, sh]
  simp only [PyData.eqv, PyData.eqvAll, cords_eqv, decide_true, Bool.and_self, Bool.and_true, if_true]
theorem lay_row : ∀ {w : List Nat}, (∀ a ∈ w, a < 128) → PyData.canLay0 (.str ⟨w.toArray⟩) = true := fun {w} h => by
  simp only [PyData.canLay0, PyData.strOk]
  simp
  intro a ha
  have := h a ha
  omega
theorem dEq_ans {w : List Nat} (h : ∀ a ∈ w, a < 128) (x y : Int) : dEq (.tuple [.str ⟨w.toArray⟩, .int x, .int y]) (.tuple [.str ⟨w.toArray⟩, .int x, .int y]) = some true := by
  have e : dEq (.tuple [.str ⟨w.toArray⟩, .int x, .int y]) (.tuple [.str ⟨w.toArray⟩, .int x, .int y]) = (if SeqAt.shaped (.tuple [.str ⟨w.toArray⟩, .int x, .int y]) && SeqAt.shaped (.tuple [.str ⟨w.toArray⟩, .int x, .int y]) then some (PyData.eqv (.tuple [.str ⟨w.toArray⟩, .int x, .int y]) (.tuple [.str ⟨w.toArray⟩, .int x, .int y])) else none) := rfl
  have l := lay_row h
  rw [PyData.canLay0] at l
  have sh : SeqAt.shaped (.tuple [.str ⟨w.toArray⟩, .int x, .int y]) = true := by
    unfold SeqAt.shaped
    simp [PyData.canLay0, PyData.canLayAll0, PyData.depth, PyData.depthAll, l]
  rw [e, sh]
  simp [PyData.eqv, PyData.eqvAll]
theorem two_self {c d : List Pc} (h : Two c d) : Two c c := ⟨h.lc, h.lc, h.oc, h.oc⟩
theorem two_nil : Two [] [] := ⟨by simp, by simp, cord_nil, cord_nil⟩
theorem btw_self (c : List Pc) : btw c c = [] := NH.short_back' c
theorem eN_ok {c d : List Pc} (h : Two c d) (l : Nat) : ∀ a ∈ eN (btw c d) l, a < 128 := fun a ha => by
  have hn := (h.oc.contr.append h.od).n.short
  unfold eN at ha
  obtain ⟨p, hp, rfl⟩ := List.mem_map.mp (List.mem_of_mem_drop ha)
  exact hn p hp
theorem kept (x0 x1 s2 s3 : Sl) (c d : List Pc) (h2 : IsC s2 c) (h3 : IsC s3 d) : pSet 4 (pLst (dCons (pLstOf (pVar 2)) (dCons (pLstOf (pVar 3)) dNil))) [x0, x1, s2, s3, .no, .no, .no, .no] = some ([x0, x1, s2, s3, .ow [.list (c.map pcD), .list (d.map pcD)], .no, .no, .no], .nx) := by
  rcases h2 with rfl | rfl
  · rcases h3 with rfl | rfl
    · simp only [pSet, pLst, dCons, pLstOf, pVar, List.getElem?_cons_succ, List.getElem?_cons_zero, look, Sl.val, hot, hot1, Option.bind_some, Bool.not_false, flatA_pc, Bool.or_true, if_true, frz, dNil, Option.map_some, List.length_cons, List.length_nil, Nat.zero_add, Nat.reduceAdd, Nat.reduceLeDiff, PL.settle, frzAll, Nat.reduceLT, List.set_cons_succ, List.set_cons_zero]
    · simp only [pSet, pLst, dCons, pLstOf, pVar, List.getElem?_cons_succ, List.getElem?_cons_zero, look, Sl.val, hot, hot1, Option.bind_some, Bool.not_false, flatA_pc, Bool.or_true, if_true, frz, dNil, Option.map_some, Option.any_some, List.length_cons, List.length_nil, Nat.zero_add, Nat.reduceAdd, Nat.reduceLeDiff, PL.settle, frzAll, Nat.reduceLT, List.set_cons_succ, List.set_cons_zero]
  · rcases h3 with rfl | rfl
    · simp only [pSet, pLst, dCons, pLstOf, pVar, List.getElem?_cons_succ, List.getElem?_cons_zero, look, Sl.val, hot, hot1, Option.bind_some, Option.any_some, Bool.not_false, flatA_pc, Bool.or_true, if_true, frz, dNil, Option.map_some, List.length_cons, List.length_nil, Nat.zero_add, Nat.reduceAdd, Nat.reduceLeDiff, PL.settle, frzAll, Nat.reduceLT, List.set_cons_succ, List.set_cons_zero]
    · simp only [pSet, pLst, dCons, pLstOf, pVar, List.getElem?_cons_succ, List.getElem?_cons_zero, look, Sl.val, hot, hot1, Option.bind_some, Option.any_some, Bool.not_false, flatA_pc, Bool.or_true, if_true, frz, dNil, Option.map_some, List.length_cons, List.length_nil, Nat.zero_add, Nat.reduceAdd, Nat.reduceLeDiff, PL.settle, frzAll, Nat.reduceLT, List.set_cons_succ, List.set_cons_zero]
theorem found (x0 x1 s2 s3 : Sl) (c d : List Pc) (V : PyData) (e : fn_told_apart [.list (c.map pcD), .list (d.map pcD)] = some (.sh V)) : pSet 5 (pCall fn_told_apart (aCons false (pBin pIx false (pVar 4) (pC (.int 0))) (aCons false (pBin pIx false (pVar 4) (pC (.int 1))) aNil))) [x0, x1, s2, s3, .ow [.list (c.map pcD), .list (d.map pcD)], .no, .no, .no] = some ([x0, x1, s2, s3, .ow [.list (c.map pcD), .list (d.map pcD)], .sh V, .no, .no], .nx) := by
  have ar : (aCons false (pBin pIx false (pVar 4) (pC (.int 0))) (aCons false (pBin pIx false (pVar 4) (pC (.int 1))) aNil)) [x0, x1, s2, s3, .ow [.list (c.map pcD), .list (d.map pcD)], .no, .no, .no] = some ([.sh (.list (c.map pcD)), .sh (.list (d.map pcD))], [x0, x1, s2, s3, .ow [.list (c.map pcD), .list (d.map pcD)], .no, .no, .no]) := by
    simp only [aCons, pBin, pVar, List.getElem?_cons_succ, List.getElem?_cons_zero, Sl.isBr, Bool.false_and, Bool.false_eq_true, pC, pIx, look, Sl.val, hot, hot1, Option.bind_some, if_false, Option.any_some, atI_0, Option.map_some, aNil, atI_1]
  exact set_sh (call_at ar rfl e) (show 5 < 8 by decide)
theorem due (x0 x1 s2 s3 x4 x5 : Sl) (c d : List Pc) (h2 : IsC s2 c) (h3 : IsC s3 d) (V : PyData) (e : fn_law_due [.list (c.map pcD), .list (d.map pcD)] = some (.sh V)) : pSet 6 (pCall fn_law_due (aCons false (pVar 2) (aCons false (pVar 3) aNil))) [x0, x1, s2, s3, x4, x5, .no, .no] = some ([x0, x1, s2, s3, x4, x5, .sh V, .no], .nx) := by
  have q : pCall fn_law_due (aCons false (pVar 2) (aCons false (pVar 3) aNil)) [x0, x1, s2, s3, x4, x5, .no, .no] = some (.sh V, [x0, x1, s2, s3, x4, x5, .no, .no]) := by
    rcases h2 with rfl | rfl
    · rcases h3 with rfl | rfl
      · exact call_at rfl rfl e
      · exact call_at rfl rfl e
    · rcases h3 with rfl | rfl
      · exact call_at rfl rfl e
      · exact call_at rfl rfl e
  exact set_sh q (show 6 < 8 by decide)
theorem same (x0 x1 s2 s3 : Sl) (c d : List Pc) (h2 : IsC s2 c) (h3 : IsC s3 d) (hc : NailsOk c) (hd : NailsOk d) (V : PyData) : tOrP (isB (pBin pNe false (pVar 4) (pLst (dCons (pVar 2) (dCons (pVar 3) dNil))))) (isB (pBin pNe false (pBin (sc2 (dIsN false)) false (pVar 5) (pC .none)) (pBin (sc2 (dIsN false)) false (pVar 6) (pC .none)))) [x0, x1, s2, s3, .ow [.list (c.map pcD), .list (d.map pcD)], .sh V, .sh V, .no] = some (false, [x0, x1, .sh (.list (c.map pcD)), .sh (.list (d.map pcD)), .ow [.list (c.map pcD), .list (d.map pcD)], .sh V, .sh V, .no]) := by
  have e := dEq_two hc hd
  rcases h2 with rfl | rfl
  · rcases h3 with rfl | rfl
    · simp only [tOrP, isB, pBin, pVar, List.getElem?_cons_succ, List.getElem?_cons_zero, Sl.isBr, Bool.false_and, Bool.false_eq_true, pLst, dCons, frz, dNil, Option.map_some, pNe, sc2, look, Sl.val, if_false, Option.bind_some, List.length_cons, List.length_nil, Nat.zero_add, Nat.reduceAdd, Nat.reduceLeDiff, if_true, e, Bool.not_true, pC, dIsN, Bool.not_false, dEq_bool, decide_true]
    · simp only [tOrP, isB, pBin, pVar, List.getElem?_cons_succ, List.getElem?_cons_zero, Sl.isBr, Bool.false_and, Bool.false_eq_true, pLst, dCons, frz, dNil, Option.map_some, pNe, sc2, look, Sl.val, if_false, Option.bind_some, List.set_cons_succ, List.set_cons_zero, List.length_cons, List.length_nil, Nat.zero_add, Nat.reduceAdd, Nat.reduceLeDiff, if_true, e, Bool.not_true, pC, dIsN, Bool.not_false, dEq_bool, decide_true]
  · rcases h3 with rfl | rfl
    · simp only [tOrP, isB, pBin, pVar, List.getElem?_cons_succ, List.getElem?_cons_zero, Sl.isBr, Bool.false_and, Bool.false_eq_true, pLst, dCons, frz, dNil, Option.map_some, pNe, sc2, look, Sl.val, if_false, Option.bind_some, List.set_cons_succ, List.set_cons_zero, List.length_cons, List.length_nil, Nat.zero_add, Nat.reduceAdd, Nat.reduceLeDiff, if_true, e, Bool.not_true, pC, dIsN, Bool.not_false, dEq_bool, decide_true]
    · simp only [tOrP, isB, pBin, pVar, List.getElem?_cons_succ, List.getElem?_cons_zero, Sl.isBr, Bool.false_and, Bool.false_eq_true, pLst, dCons, frz, dNil, Option.map_some, pNe, sc2, look, Sl.val, if_false, Option.bind_some, List.set_cons_succ, List.set_cons_zero, List.length_cons, List.length_nil, Nat.zero_add, Nat.reduceAdd, Nat.reduceLeDiff, if_true, e, Bool.not_true, pC, dIsN, Bool.not_false, dEq_bool, decide_true]
theorem alike (x0 x1 x3 x4 : Sl) (c : List Pc) (h : Two c c) (V : PyData) : tOrP (isB (pBin (sc2 (dIsN true)) false (pCall fn_told_apart (aCons false (pVar 2) (aCons false (pLstOf (pVar 2)) aNil))) (pC .none))) (isB (pBin (sc2 (dIsN true)) false (pCall fn_told_apart (aCons false (pLst dNil) (aCons false (pLst dNil) aNil))) (pC .none))) [x0, x1, .sh (.list (c.map pcD)), x3, x4, .sh V, .sh V, .no] = some (false, [x0, x1, .sh (.list (c.map pcD)), x3, x4, .sh V, .sh V, .no]) := by
  have e1 := pv_told_none c c h (btw_self c)
  have e2 := pv_told_none [] [] two_nil (btw_self [])
  rw [List.map_nil] at e2
  have a1 : (aCons false (pVar 2) (aCons false (pLstOf (pVar 2)) aNil)) [x0, x1, .sh (.list (c.map pcD)), x3, x4, .sh V, .sh V, .no] = some ([.sh (.list (c.map pcD)), .ow (c.map pcD)], [x0, x1, .sh (.list (c.map pcD)), x3, x4, .sh V, .sh V, .no]) := by
    simp only [aCons, pVar, List.getElem?_cons_succ, List.getElem?_cons_zero, Sl.isBr, Bool.false_and, Bool.false_eq_true, pLstOf, look, Sl.val, hot, hot1, aNil, Option.map_some, if_false, Option.bind_some, Bool.not_false, flatA_pc, Bool.or_true, if_true]
  have a2 : (aCons false (pLst dNil) (aCons false (pLst dNil) aNil)) [x0, x1, .sh (.list (c.map pcD)), x3, x4, .sh V, .sh V, .no] = some ([.ow [], .ow []], [x0, x1, .sh (.list (c.map pcD)), x3, x4, .sh V, .sh V, .no]) := by
    simp only [aCons, pLst, dNil, Option.bind_some, List.length_nil, Nat.reduceLeDiff, if_true, Sl.isBr, Bool.false_and, Bool.false_eq_true, aNil, Option.map_some, if_false]
  have q1 := call_at a1 rfl e1
  have q2 := call_at a2 rfl e2
  generalize pCall fn_told_apart (aCons false (pVar 2) (aCons false (pLstOf (pVar 2)) aNil)) = f1 at q1 ⊢
  generalize pCall fn_told_apart (aCons false (pLst dNil) (aCons false (pLst dNil) aNil)) = f2 at q2 ⊢
  simp only [tOrP, isB, pBin, q1, Sl.isBr, Bool.false_and, Bool.false_eq_true, pC, sc2, look, Sl.val, dIsN, Bool.not_true, Option.bind_some, Option.map_some, if_false, q2]
theorem st_num2 (x0 x1 x2 x3 x4 x5 x6 a : Sl) (z : Int) : (t_law_L0 (.int z) [x0, x1, x2, x3, x4, x5, x6, a]).bind g_law_L0 = some ([x0, x1, x2, x3, x4, x5, x6, .sh (.int z)], .nx) := by
  simp only [t_law_L0, gNameP, List.length_cons, List.length_nil, Nat.zero_add, Nat.reduceAdd, Nat.reduceLT, List.set_cons_succ, List.set_cons_zero, if_true, g_law_L0, Option.bind_some, pIfS, tOrP, tNotP, pTru, pUn, pVar, List.getElem?_cons_succ, List.getElem?_cons_zero, look, Sl.val, dIsi, Ty.is, tyD, Option.map_some, dTru, Bool.not_true, Bool.false_eq_true, if_false, pRet, pC, pNext]
noncomputable def g_rest : PSv := (pSeq (pSet 4 (pLst (dCons (pLstOf (pVar 2)) (dCons (pLstOf (pVar 3)) dNil))))
  (pSeq (pSet 5 (pCall fn_told_apart (aCons false (pBin pIx false (pVar 4) (pC (.int 0))) (aCons false (pBin pIx false (pVar 4) (pC (.int 1))) aNil))))
  (pSeq (pSet 6 (pCall fn_law_due (aCons false (pVar 2) (aCons false (pVar 3) aNil))))
  (pSeq (pIfS (tOrP (isB (pBin pNe false (pVar 4) (pLst (dCons (pVar 2) (dCons (pVar 3) dNil))))) (isB (pBin pNe false (pBin (sc2 (dIsN false)) false (pVar 5) (pC .none)) (pBin (sc2 (dIsN false)) false (pVar 6) (pC .none)))))
  (pRet (pC (.bool false)))
  pNext)
  (pSeq (pIfS (tOrP (isB (pBin (sc2 (dIsN true)) false (pCall fn_told_apart (aCons false (pVar 2) (aCons false (pLstOf (pVar 2)) aNil))) (pC .none))) (isB (pBin (sc2 (dIsN true)) false (pCall fn_told_apart (aCons false (pLst dNil) (aCons false (pLst dNil) aNil))) (pC .none))))
  (pRet (pC (.bool false)))
  pNext)
  (pSeq (pIfS (isB (pBin (sc2 (dIsN false)) false (pVar 6) (pC .none)))
  (pRet (pC (.bool true)))
  pNext)
  (pSeq (pIfS (tOrP (tNotP (pTru (pUn (dIsi .tuple) (pVar 5)))) (tOrP (isB (pBin pNe false (pCaS dLen (aCons false (pVar 5) aNil)) (pC (.int 3)))) (tNotP (pTru (pUn (dIsi .str) (pBin pIx false (pVar 5) (pC (.int 0))))))))
  (pRet (pC (.bool false)))
  pNext)
  (pSeq (pFor (iAny (pCutT false (pVar 5) (oSome (pC (.int 1))) oNone)) t_law_L0
  g_law_L0)
  (pRet (pAndV (pBin pEq false (pVar 5) (pVar 6)) (pBin pNe false (pBin pIx false (pVar 5) (pC (.int 1))) (pBin pIx false (pVar 5) (pC (.int 2))))))))))))))
theorem rest_ok (x0 x1 s2 s3 : Sl) (c d : List Pc) (h2 : IsC s2 c) (h3 : IsC s3 d) (h : Two c d) : ∃ E, g_rest [x0, x1, s2, s3, .no, .no, .no, .no] = some (E, .rt (.sh (.bool true))) := by
  have pre : ∀ V : PyData, fn_told_apart [.list (c.map pcD), .list (d.map pcD)] = some (.sh V) → fn_law_due [.list (c.map pcD), .list (d.map pcD)] = some (.sh V) → g_rest [x0, x1, s2, s3, .no, .no, .no, .no] = (pSeq (pIfS (isB (pBin (sc2 (dIsN false)) false (pVar 6) (pC .none)))
      (pRet (pC (.bool true)))
      pNext)
      (pSeq (pIfS (tOrP (tNotP (pTru (pUn (dIsi .tuple) (pVar 5)))) (tOrP (isB (pBin pNe false (pCaS dLen (aCons false (pVar 5) aNil)) (pC (.int 3)))) (tNotP (pTru (pUn (dIsi .str) (pBin pIx false (pVar 5) (pC (.int 0))))))))
      (pRet (pC (.bool false)))
      pNext)
      (pSeq (pFor (iAny (pCutT false (pVar 5) (oSome (pC (.int 1))) oNone)) t_law_L0
      g_law_L0)
      (pRet (pAndV (pBin pEq false (pVar 5) (pVar 6)) (pBin pNe false (pBin pIx false (pVar 5) (pC (.int 1))) (pBin pIx false (pVar 5) (pC (.int 2))))))))) [x0, x1, .sh (.list (c.map pcD)), .sh (.list (d.map pcD)), .ow [.list (c.map pcD), .list (d.map pcD)], .sh V, .sh V, .no] := fun V e1 e2 => by
    have i1 := if_no (a := pRet (pC (.bool false))) (b := pNext) (same x0 x1 s2 s3 c d h2 h3 h.oc.n h.od.n V) rfl
    have i2 := if_no (a := pRet (pC (.bool false))) (b := pNext) (alike x0 x1 (.sh (.list (d.map pcD))) (.ow [.list (c.map pcD), .list (d.map pcD)]) c (two_self h) V) rfl
    rw [g_rest, seq_nx (kept x0 x1 s2 s3 c d h2 h3), seq_nx (found x0 x1 s2 s3 c d V e1), seq_nx (due x0 x1 s2 s3 _ _ c d h2 h3 V e2), seq_nx i1, seq_nx i2]
  by_cases h0 : btw c d = []
  · rw [pre .none (pv_told_none c d h h0) (pv_due_none c d h h0)]
    simp only [pSeq, pIfS, isB, pBin, pVar, List.getElem?_cons_succ, List.getElem?_cons_zero, Sl.isBr, Bool.false_and, Bool.false_eq_true, pC, sc2, look, Sl.val, dIsN, Bool.not_false, Option.bind_some, Option.map_some, if_false, pRet, pNext, if_true, tOrP, tNotP, pTru, pUn, dIsi, Ty.is, tyD, pCaS, aCons, aNil, dLen, pNe, pIx, hot, hot1, pFor, iAny, pCutT, oSome, oNone, frz, pAndV, pEq]
    exact ⟨_, rfl⟩
  · obtain ⟨L, hT⟩ := tells_of (NH.short_red (NH.contr c ++ d)) h0
    rw [pre (ansD c d L) (pv_told c d h L hT) (pv_due c d h L hT)]
    have ap := two_apart hT
    have eq := dEq_ans (eN_ok h (L + 1)) (NH.picks (eN (btw c d) (L + 1)) c) (NH.picks (eN (btw c d) (L + 1)) d)
    unfold ansD
    generalize NH.picks (eN (btw c d) (L + 1)) c = X at ap eq ⊢
    generalize NH.picks (eN (btw c d) (L + 1)) d = Y at ap eq ⊢
    generalize (⟨(eN (btw c d) (L + 1)).toArray⟩ : Str) = S at eq ⊢
    have j1 : ∀ x2 x3 x4 : Sl, pIfS (isB (pBin (sc2 (dIsN false)) false (pVar 6) (pC .none))) (pRet (pC (.bool true))) pNext [x0, x1, x2, x3, x4, .sh (.tuple [.str S, .int X, .int Y]), .sh (.tuple [.str S, .int X, .int Y]), .no] = some ([x0, x1, x2, x3, x4, .sh (.tuple [.str S, .int X, .int Y]), .sh (.tuple [.str S, .int X, .int Y]), .no], .nx) := fun x2 x3 x4 => by
      simp only [pIfS, isB, pBin, pVar, List.getElem?_cons_succ, List.getElem?_cons_zero, Sl.isBr, Bool.false_and, Bool.false_eq_true, pC, sc2, look, Sl.val, dIsN, Bool.not_false, Option.bind_some, Option.map_some, if_false, pRet, pNext]
    have j2 : ∀ x2 x3 x4 : Sl, pIfS (tOrP (tNotP (pTru (pUn (dIsi .tuple) (pVar 5)))) (tOrP (isB (pBin pNe false (pCaS dLen (aCons false (pVar 5) aNil)) (pC (.int 3)))) (tNotP (pTru (pUn (dIsi .str) (pBin pIx false (pVar 5) (pC (.int 0)))))))) (pRet (pC (.bool false))) pNext [x0, x1, x2, x3, x4, .sh (.tuple [.str S, .int X, .int Y]), .sh (.tuple [.str S, .int X, .int Y]), .no] = some ([x0, x1, x2, x3, x4, .sh (.tuple [.str S, .int X, .int Y]), .sh (.tuple [.str S, .int X, .int Y]), .no], .nx) := fun x2 x3 x4 => by
      simp only [pIfS, tOrP, tNotP, pTru, pUn, pVar, List.getElem?_cons_succ, List.getElem?_cons_zero, look, Sl.val, dIsi, Ty.is, tyD, Option.map_some, Option.bind_some, dTru, Bool.not_true, isB, pBin, pCaS, aCons, Sl.isBr, Bool.false_and, Bool.false_eq_true, aNil, if_false, dLen, pC, pNe, sc2, pIx, hot, hot1, lookA, List.length_cons, List.length_nil, Nat.zero_add, Nat.reduceAdd, Int.cast_ofNat_Int, dEq_int, decide_true, atI_0, pRet, pNext]
    have ct : cutD [.str S, .int X, .int Y] (some 1) none = [.int X, .int Y] := rfl
    have it : ∀ x2 x3 x4 : Sl, iAny (pCutT false (pVar 5) (oSome (pC (.int 1))) oNone) [x0, x1, x2, x3, x4, .sh (.tuple [.str S, .int X, .int Y]), .sh (.tuple [.str S, .int X, .int Y]), .no] = some ([.int X, .int Y], [x0, x1, x2, x3, x4, .sh (.tuple [.str S, .int X, .int Y]), .sh (.tuple [.str S, .int X, .int Y]), .no]) := fun x2 x3 x4 => rfl
    have lp : ∀ x2 x3 x4 : Sl, pLoop t_law_L0 g_law_L0 [.int X, .int Y] [x0, x1, x2, x3, x4, .sh (.tuple [.str S, .int X, .int Y]), .sh (.tuple [.str S, .int X, .int Y]), .no] = some ([x0, x1, x2, x3, x4, .sh (.tuple [.str S, .int X, .int Y]), .sh (.tuple [.str S, .int X, .int Y]), .sh (.int Y)], .nx) := fun x2 x3 x4 => by
      rw [pLoop, st_num2]
      show pLoop t_law_L0 g_law_L0 [.int Y] [x0, x1, x2, x3, x4, .sh (.tuple [.str S, .int X, .int Y]), .sh (.tuple [.str S, .int X, .int Y]), .sh (.int X)] = _
      rw [pLoop, st_num2]
      rfl
    rw [seq_nx (j1 _ _ _), seq_nx (j2 _ _ _), seq_nx (for_nx (it _ _ _) (lp _ _ _))]
    simp only [pRet, pAndV, pBin, pVar, List.getElem?_cons_succ, List.getElem?_cons_zero, Sl.isBr, Bool.false_and, Bool.false_eq_true, pEq, sc2, look, Sl.val, if_false, Option.bind_some, eq, Option.map_some, pC, pIx, hot, hot1, pNe, atI_1, atI_2, dEq_int, ap, decide_false, Bool.not_false]
    exact ⟨_, rfl⟩
theorem pv_law (ns : List Int) (hl : ns.length ≤ 63) : fn_law [.list (ns.map .int)] = some (.sh (.bool true)) := by
  obtain ⟨c0, e0, l0, n0⟩ := pv_law_cord ns 0 ((ns.length / 2 : Nat) : Int) 40 (by decide) (by decide) (by decide) hl
  obtain ⟨d0, e1, l1, n1⟩ := pv_law_second c0 ns (ns.length / 2) hl (by omega) n0
  obtain ⟨d, rd, e2, hd, l2, n2⟩ := pv_law_tame d0 (by omega) n1
  obtain ⟨c, rc, e3, hc, l3, n3⟩ := pv_law_tame c0 (by omega) n0
  have two : Two c d := ⟨by omega, by omega, n3, n2⟩
  have dd : okDiv 2 = true := by decide
  have mn : ¬ ((63 : Int) < (ns.length : Int)) := by omega
  have s1 : pSet 1 (pBin pFdiv false (pCaS dMin (aCons false (pCaS dLen (aCons false (pVar 0) aNil)) (aCons false (pC (.int 63)) aNil))) (pC (.int 2))) [.sh (.list (ns.map .int)), .no, .no, .no, .no, .no, .no, .no] = some ([.sh (.list (ns.map .int)), .sh (.int ((ns.length / 2 : Nat) : Int)), .no, .no, .no, .no, .no, .no], .nx) := by
    have : ((ns.length / 2 : Nat) : Int) = (ns.length : Int) / 2 := by omega
    rw [this]
    simp only [pSet, pBin, pCaS, aCons, pVar, List.getElem?_cons_zero, Sl.isBr, Bool.false_and, Bool.false_eq_true, aNil, Option.map_some, if_false, Option.bind_some, dLen, lookA, look, Sl.val, List.length_map, pC, dMin, mn, pFdiv, sc2, iOp, dd, if_true, PL.settle, frz, frzAll, List.length_cons, List.length_nil, Nat.zero_add, Nat.reduceAdd, Nat.reduceLT, List.set_cons_succ, List.set_cons_zero]
  generalize hh : ((ns.length / 2 : Nat) : Int) = hf at *
  have q2 : pCall fn_law_cord (aCons false (pVar 0) (aCons false (pC (.int 0)) (aCons false (pVar 1) (aCons false (pC (.int 40)) aNil)))) [.sh (.list (ns.map .int)), .sh (.int hf), .no, .no, .no, .no, .no, .no] = some (.ow (c0.map pcD), [.sh (.list (ns.map .int)), .sh (.int hf), .no, .no, .no, .no, .no, .no]) := call_at rfl rfl e0
  have s2 : pSet 2 (pCall fn_law_cord (aCons false (pVar 0) (aCons false (pC (.int 0)) (aCons false (pVar 1) (aCons false (pC (.int 40)) aNil))))) [.sh (.list (ns.map .int)), .sh (.int hf), .no, .no, .no, .no, .no, .no] = some ([.sh (.list (ns.map .int)), .sh (.int hf), .ow (c0.map pcD), .no, .no, .no, .no, .no], .nx) := by
    unfold pSet
    rw [q2]
    rfl
  have q3 : pCall fn_law_second (aCons false (pVar 2) (aCons false (pVar 0) (aCons false (pVar 1) aNil))) [.sh (.list (ns.map .int)), .sh (.int hf), .ow (c0.map pcD), .no, .no, .no, .no, .no] = some (.ow (d0.map pcD), [.sh (.list (ns.map .int)), .sh (.int hf), .ow (c0.map pcD), .no, .no, .no, .no, .no]) := call_at rfl rfl e1
  have q4 : pCall fn_law_tame (aCons false (pCall fn_law_second (aCons false (pVar 2) (aCons false (pVar 0) (aCons false (pVar 1) aNil)))) aNil) [.sh (.list (ns.map .int)), .sh (.int hf), .ow (c0.map pcD), .no, .no, .no, .no, .no] = some (rd, [.sh (.list (ns.map .int)), .sh (.int hf), .ow (c0.map pcD), .no, .no, .no, .no, .no]) := by
    refine call_at (ss := [.ow (d0.map pcD)]) ?_ rfl e2
    rw [aCons, q3]
    rfl
  have s3 : ∃ t2 t3, IsC t2 c0 ∧ IsC t3 d ∧ pSet 3 (pCall fn_law_tame (aCons false (pCall fn_law_second (aCons false (pVar 2) (aCons false (pVar 0) (aCons false (pVar 1) aNil)))) aNil)) [.sh (.list (ns.map .int)), .sh (.int hf), .ow (c0.map pcD), .no, .no, .no, .no, .no] = some ([.sh (.list (ns.map .int)), .sh (.int hf), t2, t3, .no, .no, .no, .no], .nx) := by
    rcases hd with rfl | rfl
    · refine ⟨.sh (.list (c0.map pcD)), .sh (.list (d.map pcD)), Or.inl rfl, Or.inl rfl, ?_⟩
      unfold pSet
      rw [q4]
      rfl
    · refine ⟨.ow (c0.map pcD), .ow (d.map pcD), Or.inr rfl, Or.inr rfl, ?_⟩
      unfold pSet
      rw [q4]
      rfl
  obtain ⟨t2, t3, i2, i3, s3⟩ := s3
  have q5 : pCall fn_law_tame (aCons false (pVar 2) aNil) [.sh (.list (ns.map .int)), .sh (.int hf), t2, t3, .no, .no, .no, .no] = some (rc, [.sh (.list (ns.map .int)), .sh (.int hf), t2, t3, .no, .no, .no, .no]) := by
    rcases i2 with rfl | rfl
    · exact call_at rfl rfl e3
    · exact call_at rfl rfl e3
  have s4 : ∃ u2 u3, IsC u2 c ∧ IsC u3 d ∧ pSet 2 (pCall fn_law_tame (aCons false (pVar 2) aNil)) [.sh (.list (ns.map .int)), .sh (.int hf), t2, t3, .no, .no, .no, .no] = some ([.sh (.list (ns.map .int)), .sh (.int hf), u2, u3, .no, .no, .no, .no], .nx) := by
    rcases hc with rfl | rfl
    · refine ⟨.sh (.list (c.map pcD)), .sh (.list (d.map pcD)), Or.inl rfl, Or.inl rfl, ?_⟩
      unfold pSet
      rw [q5]
      rcases i2 with rfl | rfl
      · rcases i3 with rfl | rfl
        · rfl
        · rfl
      · rcases i3 with rfl | rfl
        · rfl
        · rfl
    · refine ⟨.ow (c.map pcD), t3, Or.inr rfl, i3, ?_⟩
      unfold pSet
      rw [q5]
      rfl
  obtain ⟨u2, u3, j2, j3, s4⟩ := s4
  obtain ⟨E, re⟩ := rest_ok (.sh (.list (ns.map .int))) (.sh (.int hf)) u2 u3 c d j2 j3 two
  have g : fn_law [.list (ns.map .int)] = (g_law [.sh (.list (ns.map .int)), .no, .no, .no, .no, .no, .no, .no]).bind fun a => match a.2 with | .rt r => outS r | .nx => some (.sh .none) | _ => none := rfl
  have gl : g_law = pSeq (pSet 1 (pBin pFdiv false (pCaS dMin (aCons false (pCaS dLen (aCons false (pVar 0) aNil)) (aCons false (pC (.int 63)) aNil))) (pC (.int 2))))
    (pSeq (pSet 2 (pCall fn_law_cord (aCons false (pVar 0) (aCons false (pC (.int 0)) (aCons false (pVar 1) (aCons false (pC (.int 40)) aNil))))))
    (pSeq (pSet 3 (pCall fn_law_tame (aCons false (pCall fn_law_second (aCons false (pVar 2) (aCons false (pVar 0) (aCons false (pVar 1) aNil)))) aNil)))
    (pSeq (pSet 2 (pCall fn_law_tame (aCons false (pVar 2) aNil))) g_rest))) := rfl
  rw [g, gl, seq_nx s1, seq_nx s2, seq_nx s3, seq_nx s4, re]
  rfl
end Nhk15
namespace Nhk15
open PySem L2 Nh PL
theorem all_mk {l : PySem.W.OpenLaw} {w : World} {K : PySem.W.Frag} {h : Heap} {mg : Str → Option Value} {fa f1 f2 f3 f4 f5 f6 f7 f8 f9 f10 f11 f12 f13 f14 f15 f16 f17 f18 f19 f20 f21 f22 f23 : Addr} (X : K.In h) (G : h.Ns mainGlobals mg) (hfa : mg "law" = some (.ref fa))
    {od1 od2 od3 od4 od5 od6 od7 od8 od9 od10 od11 od12 od13 od14 od15 od16 od17 od18 od19 od20 od21 od22 od23 an1 an2 an3 an4 an5 an6 an7 an8 an9 an10 an11 an12 an13 an14 an15 an16 an17 an18 an19 an20 an21 an22 an23 : Option Addr} {sl1 sl2 sl3 sl4 sl5 sl6 sl7 sl8 sl9 sl10 sl11 sl12 sl13 sl14 sl15 sl16 sl17 sl18 sl19 sl20 sl21 sl22 sl23 : Array (Option Value)} {oc1 kV1 dc1 pm1 cd1 ct1 oc2 kV2 dc2 pm2 cd2 ct2 oc3 kV3 dc3 pm3 cd3 ct3 oc4 kV4 dc4 pm4 cd4 ct4 oc5 kV5 dc5 pm5 cd5 ct5 oc6 kV6 dc6 pm6 cd6 ct6 oc7 kV7 dc7 pm7 cd7 ct7 oc8 kV8 dc8 pm8 cd8 ct8 oc9 kV9 dc9 pm9 cd9 ct9 oc10 kV10 dc10 pm10 cd10 ct10 oc11 kV11 dc11 pm11 cd11 ct11 oc12 kV12 dc12 pm12 cd12 ct12 oc13 kV13 dc13 pm13 cd13 ct13 oc14 kV14 dc14 pm14 cd14 ct14 oc15 kV15 dc15 pm15 cd15 ct15 oc16 kV16 dc16 pm16 cd16 ct16 oc17 kV17 dc17 pm17 cd17 ct17 oc18 kV18 dc18 pm18 cd18 ct18 oc19 kV19 dc19 pm19 cd19 ct19 oc20 kV20 dc20 pm20 cd20 ct20 oc21 kV21 dc21 pm21 cd21 ct21 oc22 kV22 dc22 pm22 cd22 ct22 oc23 kV23 dc23 pm23 cd23 ct23 : Value}
    (a1 : PySem.W.nsIn K mainGlobals "short_form" = some (some (.ref f1))) (l1 : K.lookup f1 = some ⟨oc1, od1, .func (PySem.W.fnOf "short_form" "short_form" (defArgs s_short_form) (defBody s_short_form) (defScope s_short_form) .none kV1 dc1 pm1 an1 cd1 ct1), sl1⟩) (c1 : PySem.W.codeIn K cd1 "short_form" = true) (k1 : PySem.W.keepIn K (.ref f1) = true)
    (a2 : PySem.W.nsIn K mainGlobals "joined" = some (some (.ref f2))) (l2 : K.lookup f2 = some ⟨oc2, od2, .func (PySem.W.fnOf "joined" "joined" (defArgs s_joined) (defBody s_joined) (defScope s_joined) .none kV2 dc2 pm2 an2 cd2 ct2), sl2⟩) (c2 : PySem.W.codeIn K cd2 "joined" = true) (k2 : PySem.W.keepIn K (.ref f2) = true)
    (a3 : PySem.W.nsIn K mainGlobals "contrary" = some (some (.ref f3))) (l3 : K.lookup f3 = some ⟨oc3, od3, .func (PySem.W.fnOf "contrary" "contrary" (defArgs s_contrary) (defBody s_contrary) (defScope s_contrary) .none kV3 dc3 pm3 an3 cd3 ct3), sl3⟩) (c3 : PySem.W.codeIn K cd3 "contrary" = true) (k3 : PySem.W.keepIn K (.ref f3) = true)
    (a4 : PySem.W.nsIn K mainGlobals "piece_numbers" = some (some (.ref f4))) (l4 : K.lookup f4 = some ⟨oc4, od4, .func (PySem.W.fnOf "piece_numbers" "piece_numbers" (defArgs s_piece_numbers) (defBody s_piece_numbers) (defScope s_piece_numbers) .none kV4 dc4 pm4 an4 cd4 ct4), sl4⟩) (c4 : PySem.W.codeIn K cd4 "piece_numbers" = true) (k4 : PySem.W.keepIn K (.ref f4) = true)
    (a5 : PySem.W.nsIn K mainGlobals "stretches_of" = some (some (.ref f5))) (l5 : K.lookup f5 = some ⟨oc5, od5, .func (PySem.W.fnOf "stretches_of" "stretches_of" (defArgs s_stretches_of) (defBody s_stretches_of) (defScope s_stretches_of) .none kV5 dc5 pm5 an5 cd5 ct5), sl5⟩) (c5 : PySem.W.codeIn K cd5 "stretches_of" = true) (k5 : PySem.W.keepIn K (.ref f5) = true)
    (a6 : PySem.W.nsIn K mainGlobals "cuts_by_nail" = some (some (.ref f6))) (l6 : K.lookup f6 = some ⟨oc6, od6, .func (PySem.W.fnOf "cuts_by_nail" "cuts_by_nail" (defArgs s_cuts_by_nail) (defBody s_cuts_by_nail) (defScope s_cuts_by_nail) .none kV6 dc6 pm6 an6 cd6 ct6), sl6⟩) (c6 : PySem.W.codeIn K cd6 "cuts_by_nail" = true) (k6 : PySem.W.keepIn K (.ref f6) = true)
    (a7 : PySem.W.nsIn K mainGlobals "add_piece" = some (some (.ref f7))) (l7 : K.lookup f7 = some ⟨oc7, od7, .func (PySem.W.fnOf "add_piece" "add_piece" (defArgs s_add_piece) (defBody s_add_piece) (defScope s_add_piece) .none kV7 dc7 pm7 an7 cd7 ct7), sl7⟩) (c7 : PySem.W.codeIn K cd7 "add_piece" = true) (k7 : PySem.W.keepIn K (.ref f7) = true)
    (a8 : PySem.W.nsIn K mainGlobals "times_in" = some (some (.ref f8))) (l8 : K.lookup f8 = some ⟨oc8, od8, .func (PySem.W.fnOf "times_in" "times_in" (defArgs s_times_in) (defBody s_times_in) (defScope s_times_in) .none kV8 dc8 pm8 an8 cd8 ct8), sl8⟩) (c8 : PySem.W.codeIn K cd8 "times_in" = true) (k8 : PySem.W.keepIn K (.ref f8) = true)
    (a9 : PySem.W.nsIn K mainGlobals "nails_in_order" = some (some (.ref f9))) (l9 : K.lookup f9 = some ⟨oc9, od9, .func (PySem.W.fnOf "nails_in_order" "nails_in_order" (defArgs s_nails_in_order) (defBody s_nails_in_order) (defScope s_nails_in_order) .none kV9 dc9 pm9 an9 cd9 ct9), sl9⟩) (c9 : PySem.W.codeIn K cd9 "nails_in_order" = true) (k9 : PySem.W.keepIn K (.ref f9) = true)
    (a10 : PySem.W.nsIn K mainGlobals "longer_end" = some (some (.ref f10))) (l10 : K.lookup f10 = some ⟨oc10, od10, .func (PySem.W.fnOf "longer_end" "longer_end" (defArgs s_longer_end) (defBody s_longer_end) (defScope s_longer_end) .none kV10 dc10 pm10 an10 cd10 ct10), sl10⟩) (c10 : PySem.W.codeIn K cd10 "longer_end" = true) (k10 : PySem.W.keepIn K (.ref f10) = true)
    (a11 : PySem.W.nsIn K mainGlobals "shortest_end" = some (some (.ref f11))) (l11 : K.lookup f11 = some ⟨oc11, od11, .func (PySem.W.fnOf "shortest_end" "shortest_end" (defArgs s_shortest_end) (defBody s_shortest_end) (defScope s_shortest_end) .none kV11 dc11 pm11 an11 cd11 ct11), sl11⟩) (c11 : PySem.W.codeIn K cd11 "shortest_end" = true) (k11 : PySem.W.keepIn K (.ref f11) = true)
    (a12 : PySem.W.nsIn K mainGlobals "told_apart" = some (some (.ref f12))) (l12 : K.lookup f12 = some ⟨oc12, od12, .func (PySem.W.fnOf "told_apart" "told_apart" (defArgs s_told_apart) (defBody s_told_apart) (defScope s_told_apart) .none kV12 dc12 pm12 an12 cd12 ct12), sl12⟩) (c12 : PySem.W.codeIn K cd12 "told_apart" = true) (k12 : PySem.W.keepIn K (.ref f12) = true)
    (a13 : PySem.W.nsIn K mainGlobals "_law_at" = some (some (.ref f13))) (l13 : K.lookup f13 = some ⟨oc13, od13, .func (PySem.W.fnOf "_law_at" "_law_at" (defArgs s_law_at) (defBody s_law_at) (defScope s_law_at) .none kV13 dc13 pm13 an13 cd13 ct13), sl13⟩) (c13 : PySem.W.codeIn K cd13 "_law_at" = true) (k13 : PySem.W.keepIn K (.ref f13) = true)
    (a14 : PySem.W.nsIn K mainGlobals "_law_mix" = some (some (.ref f14))) (l14 : K.lookup f14 = some ⟨oc14, od14, .func (PySem.W.fnOf "_law_mix" "_law_mix" (defArgs s_law_mix) (defBody s_law_mix) (defScope s_law_mix) .none kV14 dc14 pm14 an14 cd14 ct14), sl14⟩) (c14 : PySem.W.codeIn K cd14 "_law_mix" = true) (k14 : PySem.W.keepIn K (.ref f14) = true)
    (a15 : PySem.W.nsIn K mainGlobals "_law_contrary" = some (some (.ref f15))) (l15 : K.lookup f15 = some ⟨oc15, od15, .func (PySem.W.fnOf "_law_contrary" "_law_contrary" (defArgs s_law_contrary) (defBody s_law_contrary) (defScope s_law_contrary) .none kV15 dc15 pm15 an15 cd15 ct15), sl15⟩) (c15 : PySem.W.codeIn K cd15 "_law_contrary" = true) (k15 : PySem.W.keepIn K (.ref f15) = true)
    (a16 : PySem.W.nsIn K mainGlobals "_law_pieces" = some (some (.ref f16))) (l16 : K.lookup f16 = some ⟨oc16, od16, .func (PySem.W.fnOf "_law_pieces" "_law_pieces" (defArgs s_law_pieces) (defBody s_law_pieces) (defScope s_law_pieces) .none kV16 dc16 pm16 an16 cd16 ct16), sl16⟩) (c16 : PySem.W.codeIn K cd16 "_law_pieces" = true) (k16 : PySem.W.keepIn K (.ref f16) = true)
    (a17 : PySem.W.nsIn K mainGlobals "_law_cord" = some (some (.ref f17))) (l17 : K.lookup f17 = some ⟨oc17, od17, .func (PySem.W.fnOf "_law_cord" "_law_cord" (defArgs s_law_cord) (defBody s_law_cord) (defScope s_law_cord) .none kV17 dc17 pm17 an17 cd17 ct17), sl17⟩) (c17 : PySem.W.codeIn K cd17 "_law_cord" = true) (k17 : PySem.W.keepIn K (.ref f17) = true)
    (a18 : PySem.W.nsIn K mainGlobals "_law_runs" = some (some (.ref f18))) (l18 : K.lookup f18 = some ⟨oc18, od18, .func (PySem.W.fnOf "_law_runs" "_law_runs" (defArgs s_law_runs) (defBody s_law_runs) (defScope s_law_runs) .none kV18 dc18 pm18 an18 cd18 ct18), sl18⟩) (c18 : PySem.W.codeIn K cd18 "_law_runs" = true) (k18 : PySem.W.keepIn K (.ref f18) = true)
    (a19 : PySem.W.nsIn K mainGlobals "_law_tame" = some (some (.ref f19))) (l19 : K.lookup f19 = some ⟨oc19, od19, .func (PySem.W.fnOf "_law_tame" "_law_tame" (defArgs s_law_tame) (defBody s_law_tame) (defScope s_law_tame) .none kV19 dc19 pm19 an19 cd19 ct19), sl19⟩) (c19 : PySem.W.codeIn K cd19 "_law_tame" = true) (k19 : PySem.W.keepIn K (.ref f19) = true)
    (a20 : PySem.W.nsIn K mainGlobals "_law_picks" = some (some (.ref f20))) (l20 : K.lookup f20 = some ⟨oc20, od20, .func (PySem.W.fnOf "_law_picks" "_law_picks" (defArgs s_law_picks) (defBody s_law_picks) (defScope s_law_picks) .none kV20 dc20 pm20 an20 cd20 ct20), sl20⟩) (c20 : PySem.W.codeIn K cd20 "_law_picks" = true) (k20 : PySem.W.keepIn K (.ref f20) = true)
    (a21 : PySem.W.nsIn K mainGlobals "_law_second" = some (some (.ref f21))) (l21 : K.lookup f21 = some ⟨oc21, od21, .func (PySem.W.fnOf "_law_second" "_law_second" (defArgs s_law_second) (defBody s_law_second) (defScope s_law_second) .none kV21 dc21 pm21 an21 cd21 ct21), sl21⟩) (c21 : PySem.W.codeIn K cd21 "_law_second" = true) (k21 : PySem.W.keepIn K (.ref f21) = true)
    (a22 : PySem.W.nsIn K mainGlobals "_law_due" = some (some (.ref f22))) (l22 : K.lookup f22 = some ⟨oc22, od22, .func (PySem.W.fnOf "_law_due" "_law_due" (defArgs s_law_due) (defBody s_law_due) (defScope s_law_due) .none kV22 dc22 pm22 an22 cd22 ct22), sl22⟩) (c22 : PySem.W.codeIn K cd22 "_law_due" = true) (k22 : PySem.W.keepIn K (.ref f22) = true)
    (a23 : PySem.W.nsIn K mainGlobals "law" = some (some (.ref f23))) (l23 : K.lookup f23 = some ⟨oc23, od23, .func (PySem.W.fnOf "law" "law" (defArgs s_law) (defBody s_law) (defScope s_law) .none kV23 dc23 pm23 an23 cd23 ct23), sl23⟩) (c23 : PySem.W.codeIn K cd23 "law" = true) (k23 : PySem.W.keepIn K (.ref f23) = true)
    (z1 : PySem.W.nsIn K mainGlobals "len" = some none)
    (z2 : PySem.W.nsIn K mainGlobals "range" = some none)
    (z3 : PySem.W.nsIn K mainGlobals "abs" = some none)
    (z4 : PySem.W.nsIn K mainGlobals "min" = some none)
    (z5 : PySem.W.nsIn K mainGlobals "max" = some none)
    (z6 : PySem.W.nsIn K mainGlobals "reversed" = some none)
    (z7 : PySem.W.nsIn K mainGlobals "enumerate" = some none)
    (z8 : PySem.W.nsIn K mainGlobals "isinstance" = some none)
    (z9 : PySem.W.nsIn K mainGlobals "list" = some none)
    (z10 : PySem.W.nsIn K mainGlobals "tuple" = some none)
    (z11 : PySem.W.nsIn K mainGlobals "str" = some none)
    (z12 : PySem.W.nsIn K mainGlobals "int" = some none)
    (z13 : PySem.W.nsIn K mainGlobals "bool" = some none)
    (z14 : PySem.W.nsIn K mainGlobals "sorted" = some none)
    (z15 : PySem.W.nsIn K mainGlobals "zip" = some none)
    (z16 : PySem.W.nsIn K mainGlobals "sum" = some none)
    (z17 : PySem.W.nsIn K mainGlobals "any" = some none)
    (z18 : PySem.W.nsIn K mainGlobals "all" = some none)
    (z19 : PySem.W.nsIn K mainGlobals "set" = some none)
    (z20 : PySem.W.nsIn K mainGlobals "dict" = some none) :
    ∃ fd : FuncData, (∀ (s : Shared) (v : Value), BindsTo s fd ⟨[v], []⟩ [("_law_script", v)]) ∧ ∀ base : Heap, K.In base → base.Ns mainGlobals mg → FnOk l.prog w K mg base CX0 5 fa fd ["_law_script"] (spP K fn_law) := by
  have e := hfa.symm.trans (PySem.W.mg_of X G a23)
  cases e
  have F0 := fun_mk (st := s_law) l23 c23 k23
  have B : Bn mg := bn_mk X G z1 z2 z3 z4 z5 z6 z7 z8 z9 z10 z11 z12 z13 z14 z15 z16 z17 z18 z19 z20
  have e_short_form : Def K mg "short_form" s_short_form ["cord"] := def_mk X G a1 l1 c1 k1 fun _ _ _ _ _ _ us hl => match us, hl with | [_], _ => rfl
  have e_joined : Def K mg "joined" s_joined ["one", "other"] := def_mk X G a2 l2 c2 k2 fun _ _ _ _ _ _ us hl => match us, hl with | [_, _], _ => rfl
  have e_contrary : Def K mg "contrary" s_contrary ["cord"] := def_mk X G a3 l3 c3 k3 fun _ _ _ _ _ _ us hl => match us, hl with | [_], _ => rfl
  have e_piece_numbers : Def K mg "piece_numbers" s_piece_numbers ["turns", "most"] := def_mk X G a4 l4 c4 k4 fun _ _ _ _ _ _ us hl => match us, hl with | [_, _], _ => rfl
  have e_stretches_of : Def K mg "stretches_of" s_stretches_of ["row"] := def_mk X G a5 l5 c5 k5 fun _ _ _ _ _ _ us hl => match us, hl with | [_], _ => rfl
  have e_cuts_by_nail : Def K mg "cuts_by_nail" s_cuts_by_nail ["row", "stretches"] := def_mk X G a6 l6 c6 k6 fun _ _ _ _ _ _ us hl => match us, hl with | [_, _], _ => rfl
  have e_add_piece : Def K mg "add_piece" s_add_piece ["numbers", "cuts", "single"] := def_mk X G a7 l7 c7 k7 fun _ _ _ _ _ _ us hl => match us, hl with | [_, _, _], _ => rfl
  have e_times_in : Def K mg "times_in" s_times_in ["row", "cord"] := def_mk X G a8 l8 c8 k8 fun _ _ _ _ _ _ us hl => match us, hl with | [_, _], _ => rfl
  have e_nails_in_order : Def K mg "nails_in_order" s_nails_in_order ["runs"] := def_mk X G a9 l9 c9 k9 fun _ _ _ _ _ _ us hl => match us, hl with | [_], _ => rfl
  have e_longer_end : Def K mg "longer_end" s_longer_end ["runs", "numbers", "length"] := def_mk X G a10 l10 c10 k10 fun _ _ _ _ _ _ us hl => match us, hl with | [_, _, _], _ => rfl
  have e_shortest_end : Def K mg "shortest_end" s_shortest_end ["runs"] := def_mk X G a11 l11 c11 k11 fun _ _ _ _ _ _ us hl => match us, hl with | [_], _ => rfl
  have e_told_apart : Def K mg "told_apart" s_told_apart ["one", "other"] := def_mk X G a12 l12 c12 k12 fun _ _ _ _ _ _ us hl => match us, hl with | [_, _], _ => rfl
  have e_law_at : Def K mg "_law_at" s_law_at ["_law_script", "_law_k"] := def_mk X G a13 l13 c13 k13 fun _ _ _ _ _ _ us hl => match us, hl with | [_, _], _ => rfl
  have e_law_mix : Def K mg "_law_mix" s_law_mix ["_law_cell", "_law_k"] := def_mk X G a14 l14 c14 k14 fun _ _ _ _ _ _ us hl => match us, hl with | [_, _], _ => rfl
  have e_law_contrary : Def K mg "_law_contrary" s_law_contrary ["_law_cord_here"] := def_mk X G a15 l15 c15 k15 fun _ _ _ _ _ _ us hl => match us, hl with | [_], _ => rfl
  have e_law_pieces : Def K mg "_law_pieces" s_law_pieces ["_law_cell"] := def_mk X G a16 l16 c16 k16 fun _ _ _ _ _ _ us hl => match us, hl with | [_], _ => rfl
  have e_law_cord : Def K mg "_law_cord" s_law_cord ["_law_script", "_law_first", "_law_last", "_law_most"] := def_mk X G a17 l17 c17 k17 fun _ _ _ _ _ _ us hl => match us, hl with | [_, _, _, _], _ => rfl
  have e_law_runs : Def K mg "_law_runs" s_law_runs ["_law_cord_here"] := def_mk X G a18 l18 c18 k18 fun _ _ _ _ _ _ us hl => match us, hl with | [_], _ => rfl
  have e_law_tame : Def K mg "_law_tame" s_law_tame ["_law_cord_here"] := def_mk X G a19 l19 c19 k19 fun _ _ _ _ _ _ us hl => match us, hl with | [_], _ => rfl
  have e_law_picks : Def K mg "_law_picks" s_law_picks ["_law_row", "_law_cord_here"] := def_mk X G a20 l20 c20 k20 fun _ _ _ _ _ _ us hl => match us, hl with | [_, _], _ => rfl
  have e_law_second : Def K mg "_law_second" s_law_second ["_law_cord_here", "_law_script", "_law_half"] := def_mk X G a21 l21 c21 k21 fun _ _ _ _ _ _ us hl => match us, hl with | [_, _, _], _ => rfl
  have e_law_due : Def K mg "_law_due" s_law_due ["_law_one", "_law_other"] := def_mk X G a22 l22 c22 k22 fun _ _ _ _ _ _ us hl => match us, hl with | [_, _], _ => rfl
  refine ⟨PySem.W.fnOf "law" "law" (defArgs s_law) (defBody s_law) (defScope s_law) .none kV23 dc23 pm23 an23 cd23 ct23, fun s v => .of_eq rfl, fun base _ _ => ?_⟩
  have D_short_form := ok_short_form (P := l.prog) (w := w) (base := base) e_short_form B 
  have D_joined := ok_joined (P := l.prog) (w := w) (base := base) e_joined B 
  have D_contrary := ok_contrary (P := l.prog) (w := w) (base := base) e_contrary B 
  have D_piece_numbers := ok_piece_numbers (P := l.prog) (w := w) (base := base) e_piece_numbers B 
  have D_stretches_of := ok_stretches_of (P := l.prog) (w := w) (base := base) e_stretches_of B 
  have D_cuts_by_nail := ok_cuts_by_nail (P := l.prog) (w := w) (base := base) e_cuts_by_nail B 
  have D_add_piece := ok_add_piece (P := l.prog) (w := w) (base := base) e_add_piece B 
  have D_times_in := ok_times_in (P := l.prog) (w := w) (base := base) e_times_in B D_stretches_of D_cuts_by_nail D_short_form D_piece_numbers D_add_piece
  have D_nails_in_order := ok_nails_in_order (P := l.prog) (w := w) (base := base) e_nails_in_order B 
  have D_longer_end := ok_longer_end (P := l.prog) (w := w) (base := base) e_longer_end B 
  have D_shortest_end := ok_shortest_end (P := l.prog) (w := w) (base := base) e_shortest_end B D_longer_end D_nails_in_order
  have D_told_apart := ok_told_apart (P := l.prog) (w := w) (base := base) e_told_apart B D_contrary D_joined D_short_form D_shortest_end D_times_in
  have D_law_at := ok_law_at (P := l.prog) (w := w) (base := base) e_law_at B 
  have D_law_mix := ok_law_mix (P := l.prog) (w := w) (base := base) e_law_mix B 
  have D_law_contrary := ok_law_contrary (P := l.prog) (w := w) (base := base) e_law_contrary B 
  have D_law_pieces := ok_law_pieces (P := l.prog) (w := w) (base := base) e_law_pieces B D_law_mix
  have D_law_cord := ok_law_cord (P := l.prog) (w := w) (base := base) e_law_cord B D_law_at D_law_contrary D_law_pieces
  have D_law_runs := ok_law_runs (P := l.prog) (w := w) (base := base) e_law_runs B 
  have D_law_tame := ok_law_tame (P := l.prog) (w := w) (base := base) e_law_tame B 
  have D_law_picks := ok_law_picks (P := l.prog) (w := w) (base := base) e_law_picks B 
  have D_law_second := ok_law_second (P := l.prog) (w := w) (base := base) e_law_second B D_law_at D_law_cord
  have D_law_due := ok_law_due (P := l.prog) (w := w) (base := base) e_law_due B D_law_contrary D_law_runs D_law_picks
  exact ok_law F0 B D_law_cord D_law_second D_law_tame D_told_apart D_law_due
theorem walk {l : PySem.W.OpenLaw} {q : Program} {loose : List Str} {XP : (Str → Option Value) → Heap → Prop} {YP : World → Heap → Prop} {d : DefRec} {K : Params → PySem.W.Frag} (hn : l.most = some 63) (hdf : d.params.defaults = [])
    (hY : ∀ (w : World) (h : Heap), YP w h → (K w.params).In h)
    (F : ∀ (w : World) (mg : Str → Option Value) (fa : Addr) (h : Heap), (K w.params).In h → h.Ns mainGlobals mg → mg d.name = some (.ref fa) →
      ∃ fd : FuncData, (∀ (s : Shared) (u : Value), BindsTo s fd ⟨[u], []⟩ [("_law_script", u)]) ∧ ∀ base : Heap, (K w.params).In base → base.Ns mainGlobals mg → FnOk l.prog w (K w.params) mg base CX0 5 fa fd ["_law_script"] (spP (K w.params) fn_law)) :
    PySem.W.WalkO q loose XP YP l.row.toRowW d [] (fun f vs => PySem.call f vs) :=
  L2.walk_of (n := 63) (k := 5) (x := "_law_script") (CX := fun _ => CX0) (sp := fun w => spP (K w.params) fn_law) hn (by decide) hdf ⟨rfl, by decide, by decide⟩ hY F (fun _ _ a ns hl _ hS => law_sp (pv_law ns hl) hS) fun _ _ _ _ _ z => z
end Nhk15
open PySem PySem.W PyProof.Rows
set_option maxRecDepth 100000 in
set_option maxHeartbeats 0 in
theorem PySem.Challenge.cw_nailhang_k15_told_apart_holds : PySem.Challenge.rw_nailhang_k15_told_apart.Holds := by
  w_on; o_law; k_head; (case hw => w_witness2)
  k_fill
  refine Nhk15.walk (l := PySem.Challenge.rw_nailhang_k15_told_apart) rfl rfl (fun w h Y => PySem.W.kIn_of Y) ?F
  case F =>
    intro w mg fa h KX G hmg
    refine' Nhk15.all_mk KX G hmg ?a1 ?l1 ?c1 ?k1 ?a2 ?l2 ?c2 ?k2 ?a3 ?l3 ?c3 ?k3 ?a4 ?l4 ?c4 ?k4 ?a5 ?l5 ?c5 ?k5 ?a6 ?l6 ?c6 ?k6 ?a7 ?l7 ?c7 ?k7 ?a8 ?l8 ?c8 ?k8 ?a9 ?l9 ?c9 ?k9 ?a10 ?l10 ?c10 ?k10 ?a11 ?l11 ?c11 ?k11 ?a12 ?l12 ?c12 ?k12 ?a13 ?l13 ?c13 ?k13 ?a14 ?l14 ?c14 ?k14 ?a15 ?l15 ?c15 ?k15 ?a16 ?l16 ?c16 ?k16 ?a17 ?l17 ?c17 ?k17 ?a18 ?l18 ?c18 ?k18 ?a19 ?l19 ?c19 ?k19 ?a20 ?l20 ?c20 ?k20 ?a21 ?l21 ?c21 ?k21 ?a22 ?l22 ?c22 ?k22 ?a23 ?l23 ?c23 ?k23 ?z1 ?z2 ?z3 ?z4 ?z5 ?z6 ?z7 ?z8 ?z9 ?z10 ?z11 ?z12 ?z13 ?z14 ?z15 ?z16 ?z17 ?z18 ?z19 ?z20
    (case a1 => k_is)
    (case l1 => k_is)
    (case c1 => k_is)
    (case k1 => k_is)
    (case a2 => k_is)
    (case l2 => k_is)
    (case c2 => k_is)
    (case k2 => k_is)
    (case a3 => k_is)
    (case l3 => k_is)
    (case c3 => k_is)
    (case k3 => k_is)
    (case a4 => k_is)
    (case l4 => k_is)
    (case c4 => k_is)
    (case k4 => k_is)
    (case a5 => k_is)
    (case l5 => k_is)
    (case c5 => k_is)
    (case k5 => k_is)
    (case a6 => k_is)
    (case l6 => k_is)
    (case c6 => k_is)
    (case k6 => k_is)
    (case a7 => k_is)
    (case l7 => k_is)
    (case c7 => k_is)
    (case k7 => k_is)
    (case a8 => k_is)
    (case l8 => k_is)
    (case c8 => k_is)
    (case k8 => k_is)
    (case a9 => k_is)
    (case l9 => k_is)
    (case c9 => k_is)
    (case k9 => k_is)
    (case a10 => k_is)
    (case l10 => k_is)
    (case c10 => k_is)
    (case k10 => k_is)
    (case a11 => k_is)
    (case l11 => k_is)
    (case c11 => k_is)
    (case k11 => k_is)
    (case a12 => k_is)
    (case l12 => k_is)
    (case c12 => k_is)
    (case k12 => k_is)
    (case a13 => k_is)
    (case l13 => k_is)
    (case c13 => k_is)
    (case k13 => k_is)
    (case a14 => k_is)
    (case l14 => k_is)
    (case c14 => k_is)
    (case k14 => k_is)
    (case a15 => k_is)
    (case l15 => k_is)
    (case c15 => k_is)
    (case k15 => k_is)
    (case a16 => k_is)
    (case l16 => k_is)
    (case c16 => k_is)
    (case k16 => k_is)
    (case a17 => k_is)
    (case l17 => k_is)
    (case c17 => k_is)
    (case k17 => k_is)
    (case a18 => k_is)
    (case l18 => k_is)
    (case c18 => k_is)
    (case k18 => k_is)
    (case a19 => k_is)
    (case l19 => k_is)
    (case c19 => k_is)
    (case k19 => k_is)
    (case a20 => k_is)
    (case l20 => k_is)
    (case c20 => k_is)
    (case k20 => k_is)
    (case a21 => k_is)
    (case l21 => k_is)
    (case c21 => k_is)
    (case k21 => k_is)
    (case a22 => k_is)
    (case l22 => k_is)
    (case c22 => k_is)
    (case k22 => k_is)
    (case a23 => k_is)
    (case l23 => k_is)
    (case c23 => k_is)
    (case k23 => k_is)
    (case z1 => k_is)
    (case z2 => k_is)
    (case z3 => k_is)
    (case z4 => k_is)
    (case z5 => k_is)
    (case z6 => k_is)
    (case z7 => k_is)
    (case z8 => k_is)
    (case z9 => k_is)
    (case z10 => k_is)
    (case z11 => k_is)
    (case z12 => k_is)
    (case z13 => k_is)
    (case z14 => k_is)
    (case z15 => k_is)
    (case z16 => k_is)
    (case z17 => k_is)
    (case z18 => k_is)
    (case z19 => k_is)
    (case z20 => k_is)
