import PyProof.Rows.All
import Wide.All
import OpenK.AllK
import Wide.FinOn
import Lean
import PyProof.EqAt
import PyProof.EqKinds
import PyProof.TupleCall
import KE.KRevIter
import PyProof.Rows.SeqMore
import PyProof.Rows.ListMulArg
import PyProof.ZipIter
import PyProof.Rows.ZipGen
import PyProof.EnumMake
import PyProof.StrWalks
import PyProof.SliceStr2
import PyProof.StrBlockH
import PyProof.FString5
import PyProof.Rows.StrJoin2
import PyProof.Rows.Range3
import PyProof.ConsumeWalk
import PyProof.SumWalkG
import PyProof.Rows.SeqCalls
import PyProof.Rows.SeqGen
import PyProof.Rows.MinMaxN
import PyProof.Rows.SortStr
import PySem.Challenge.RW_nailhang_k72_there_and_back
set_option Elab.async false
set_option linter.all false
set_option maxRecDepth 100000
set_option maxHeartbeats 4000000
namespace L2
open PySem PySem.Spec PyProof.Rows
noncomputable abbrev Key := Sum Int Str
noncomputable def keyIs : Key → Value → Bool
  | .inl k, v => Value.isInt k v
  | .inr x, v => Value.isStrOf x v
noncomputable def keyH (w : World) : Key → Int
  | .inl k => hashInt k
  | .inr x => hashStr w x
theorem keyIs_shape : ∀ {k : Key} {v : Value}, keyIs k v = true → (∃ i t, k = Sum.inl i ∧ v = Value.int i t) ∨ (∃ x t, k = Sum.inr x ∧ v = Value.str x t)
  | .inl i, v, h => by
    obtain ⟨t, e⟩ := Value.isInt_shape (k := i) (v := v) h
    exact .inl ⟨i, t, rfl, e⟩
  | .inr x, v, h => by
    obtain ⟨t, e⟩ := Value.isStrOf_shape (x := x) (v := v) h
    exact .inr ⟨x, t, rfl, e⟩
theorem keyIs_int (i : Int) (t : Tok) : keyIs (.inl i) (.int i t) = true := by simp [keyIs, Value.isInt]
theorem keyIs_str (x : Str) (t : Tok) : keyIs (.inr x) (.str x t) = true := by simp [keyIs, Value.isStrOf]
theorem key_ll (a b : Int) : decide ((Sum.inl a : Key) = Sum.inl b) = (a == b) := by
  by_cases e : a = b
  · subst e; simp
  · have h : ¬ (Sum.inl a : Key) = Sum.inl b := fun q => e (Sum.inl.inj q)
    rw [decide_eq_false h]
    exact (beq_eq_false_iff_ne.mpr e).symm
theorem key_rr (a b : Str) : decide ((Sum.inr a : Key) = Sum.inr b) = decide (a = b) := by
  by_cases e : a = b
  · subst e; simp
  · have h : ¬ (Sum.inr a : Key) = Sum.inr b := fun q => e (Sum.inr.inj q)
    rw [decide_eq_false h, decide_eq_false e]
theorem key_lr (a : Int) (b : Str) : decide ((Sum.inl a : Key) = Sum.inr b) = false := decide_eq_false (fun q => nomatch q)
theorem key_rl (a : Str) (b : Int) : decide ((Sum.inr a : Key) = Sum.inl b) = false := decide_eq_false (fun q => nomatch q)
noncomputable def mixKind (prog : Program) (w : World) : PySem.KeyKind prog w Key where
  is := keyIs
  hash := keyH w
  inj := fun v a b ha hb => by
    rcases keyIs_shape ha with ⟨i, t, rfl, rfl⟩ | ⟨x, t, rfl, rfl⟩
    · rcases keyIs_shape hb with ⟨j, u, rfl, e⟩ | ⟨y, u, rfl, e⟩
      · injection e with e1 _; rw [e1]
      · exact nomatch e
    · rcases keyIs_shape hb with ⟨j, u, rfl, e⟩ | ⟨y, u, rfl, e⟩
      · exact nomatch e
      · injection e with e1 _; rw [e1]
  byValue := fun k v h => by
    rcases keyIs_shape h with ⟨i, t, rfl, rfl⟩ | ⟨x, t, rfl, rfl⟩ <;> rfl
  pyHash := fun hv h => by
    rcases keyIs_shape hv with ⟨i, t, rfl, rfl⟩ | ⟨x, t, rfl, rfl⟩
    · exact wpAny_pyHash_int h
    · exact wpAny_pyHash_str h
  eqBool := fun hu hv h => by
    rcases keyIs_shape hu with ⟨i, t, rfl, rfl⟩ | ⟨x, t, rfl, rfl⟩
    · rcases keyIs_shape hv with ⟨j, u, rfl, rfl⟩ | ⟨y, u, rfl, rfl⟩
      · rw [key_ll] at h; exact wpAny_eqBool_int h
      · rw [key_lr] at h; exact SeqAt.EqAt.int_str i t y u _ _ _ _ h
    · rcases keyIs_shape hv with ⟨j, u, rfl, rfl⟩ | ⟨y, u, rfl, rfl⟩
      · rw [key_rl] at h; exact SeqAt.EqAt.str_int x t j u _ _ _ _ h
      · rw [key_rr] at h; exact wpAny_eqBool_str h
  «strs» := fun k x t v h => by
    rcases keyIs_shape h with ⟨i, u, rfl, e⟩ | ⟨y, u, rfl, e⟩
    · exact nomatch e
    · injection e with e1 _
      subst e1
      cases v <;> rfl
theorem mixKind_int (prog : Program) (w : World) (i : Int) (t : Tok) : (mixKind prog w).is (.inl i) (.int i t) = true := keyIs_int i t
theorem mixKind_str (prog : Program) (w : World) (x : Str) (t : Tok) : (mixKind prog w).is (.inr x) (.str x t) = true := keyIs_str x t
end L2
namespace L2
open PySem PySem.Spec PyProof.Rows
inductive V where
  | non | bl (b : Bool) | int (i : Int) | str (x : Str) | byt (b : Array UInt8) | flt (b : UInt64) | ref (a : Addr) | ty (n : String)
  deriving DecidableEq
noncomputable def RelV : V → Value → Prop
  | .non, u => u = Value.none
  | .bl b, u => u = Value.bool b
  | .int i, u => ∃ t, u = Value.int i t
  | .str x, u => ∃ t, u = Value.str x t
  | .byt b, u => ∃ t, u = Value.bytes b t
  | .flt b, u => ∃ t, u = Value.float b t
  | .ref a, u => u = Value.ref a
  | .ty n, u => u = Value.type n
noncomputable abbrev Vals : List V → List Value → Prop := Paired RelV
theorem Vals.length {xs : List V} {us : List Value} (r : Vals xs us) : xs.length = us.length := Paired.length r
theorem Vals.get : ∀ {xs : List V} {us : List Value} {i : Nat} {x : V}, Vals xs us → xs[i]? = some x → ∃ u, us[i]? = some u ∧ RelV x u
  | _, _, _, _, .nil, e => by simp at e
  | _, _, 0, _, .cons r _, e => by simp at e; subst e; exact ⟨_, rfl, r⟩
  | _, _, i + 1, x, .cons _ t, e => by
    obtain ⟨u, h1, h2⟩ := Vals.get (i := i) (x := x) t (by simpa using e)
    exact ⟨u, by simpa using h1, h2⟩
theorem Vals.append : ∀ {xs ys : List V} {us ws : List Value}, Vals xs us → Vals ys ws → Vals (xs ++ ys) (us ++ ws)
  | _, _, _, _, .nil, s => s
  | _, _, _, _, .cons r t, s => .cons r (Vals.append t s)
theorem Vals.take : ∀ {xs : List V} {us : List Value} (n : Nat), Vals xs us → Vals (xs.take n) (us.take n)
  | _, _, 0, _ => .nil
  | _, _, _ + 1, .nil => .nil
  | _, _, n + 1, .cons r t => .cons r (Vals.take n t)
theorem Vals.drop : ∀ {xs : List V} {us : List Value} (n : Nat), Vals xs us → Vals (xs.drop n) (us.drop n)
  | _, _, 0, r => r
  | _, _, _ + 1, .nil => .nil
  | _, _, n + 1, .cons _ t => Vals.drop n t
noncomputable def RelO : Option V → Option Value → Prop
  | some v, some u => RelV v u
  | none, none => True
  | _, _ => False
noncomputable def KV {κ : Type} : List (κ × V) → List (κ × Value) → Prop := Paired fun (p : κ × V) (q : κ × Value) => p.1 = q.1 ∧ RelV p.2 q.2
noncomputable def kV : Key → V
  | .inl i => .int i
  | .inr x => .str x
inductive HO where
  /-- a list -/
  | lst (xs : List V)
  /-- a tuple (never changes) -/
  | tup (xs : List V)
  /-- a dict whose keys are ints and texts; one whose keys are tuples of ints and texts (the empty one is both) -/
  | dK (kvs : List (Key × V)) | dT (kvs : List (List Key × V))
  /-- a set of ints: its members, its size -/
  | set (S : Int → Bool) (n : Nat)
  /-- an instance of the class at C, its dict at dx, its attributes -/
  | ins (C dx : Addr) (fs : List (Str × V))
  /-- the dict of the instance at x -/
  | own (x : Addr)
  /-- the dict of an exception -/
  | xd (fs : List (Str × V))
  /-- a bound method, f of x -/
  | met (f x : Addr)
  /-- a range object lo, lo + 1, .. below hi -/
  | rng (lo hi : Int)
  /-- a thing that is known to the object (the script; a dict while a loop walks it): read, never written while it is so -/
  | frz (o : Obj) (u : HO)
  /-- a code object's table -/
  | tbl (ps : Array Value)
  /-- any other thing, by what is true of its one object (a def of one's own: SetO a S n := HO.ext fun h => ..) -/
  | ext (φ : Heap → Prop)
noncomputable abbrev Hp := Addr → Option HO
noncomputable def upd (H : Hp) (a : Addr) (o : HO) : Hp := fun b => if b = a then some o else H b
theorem upd_same {H : Hp} {a : Addr} {o : HO} : upd H a o a = some o := by unfold upd; rw [if_pos rfl]
theorem upd_ne {H : Hp} {a b : Addr} {o : HO} (h : b ≠ a) : upd H a o b = H b := by unfold upd; rw [if_neg h]
theorem ne_of_none {H : Hp} {a b : Addr} {o : HO} (h : H a = some o) (h' : H b = none) : a ≠ b := by
  intro e; subst e; rw [h] at h'; cases h'
section
variable (P : Program) (w : World)
noncomputable def ObjOk (H : Hp) (h : Heap) (a : Addr) : HO → Prop
  | .lst xs => xs.length ≤ sizeLine ∧ ∃ (its : List Value) (n : Nat), Vals xs its ∧ h.get? a = some { cls := .type "list", data := .seq its.toArray n }
  | .tup xs => xs.length ≤ sizeLine ∧ ∃ its : List Value, Vals xs its ∧ IsTup h a its.toArray
  | .dK kvs => kvs.length ≤ sizeLine ∧ (a == sysModules) = false ∧ ∃ vs, KV kvs vs ∧ h.DictOf (mixKind P w) a vs
  | .dT kvs => kvs.length ≤ sizeLine ∧ (a == sysModules) = false ∧ ∃ xs : List (List Key × Addr × Value),
      Paired (fun (p : List Key × V) (q : List Key × Addr × Value) => p.1 = q.1 ∧ H q.2.1 = some (.tup (p.1.map kV)) ∧ RelV p.2 q.2.2) kvs xs ∧
      ∃ o es ep, h.get? a = some o ∧ o.ExactDict ∧ o.data = .dict es ep ∧ es.toList = xs.map (entryOfKey (tupleKind (mixKind P w))) ∧ (xs.map (·.1)).Nodup
  | .set S n => h.SetOf (intKind P w) a S n
  | .ins C dx fs => H dx = some (.own a) ∧ fs.length ≤ 1000 ∧ dx ≠ a ∧ h.get? a = some (PySem.W.instObj C dx) ∧
      ∃ mA, h.Ns1 dx mA ∧ (∀ f, RelO (fs.lookup f) (mA f)) ∧ PySem.Within mA (fs.map (·.1))
  | .own _ => ∃ o, h.get? a = some o
  | .xd fs => ∃ mA, h.Ns1 a mA ∧ ∀ f, RelO (fs.lookup f) (mA f)
  | .rng lo hi => ∃ t u v, h.get? a = some { cls := .type "range", data := .fields #[.int lo t, .int hi u, .int 1 v] }
  | .frz o u => h.get? a = some o ∧ ObjOk H h a u
  | .tbl ps => h.get? a = some { cls := .none, data := .fields ps }
  | .met f x => h.get? a = some (PySem.W.methodObj (.ref f) (.ref x))
  | .ext φ => φ h ∧ (∃ o, h.get? a = some o) ∧ ∀ h1 h2 : Heap, φ h1 → (∀ o, h1.get? a = some o → h2.get? a = some o) → φ h2
noncomputable def HOk (H : Hp) (h : Heap) : Prop := ∀ a o, H a = some o → ObjOk P w H h a o
end
section
variable {P : Program} {w : World} {H H' : Hp} {h h' : Heap} {a : Addr} {o : HO}
theorem ObjOk.lt (x : ObjOk P w H h a o) : a < h.objs.size := by
  cases o with
  | lst xs => obtain ⟨_, _, _, _, e⟩ := x; exact Heap.lt_size e
  | tup xs => obtain ⟨_, _, _, p⟩ := x; exact p.lt
  | dK kvs => obtain ⟨_, _, _, _, o, _, _, e, _⟩ := x; exact Heap.lt_size e
  | dT kvs => obtain ⟨_, _, _, _, o, _, _, e, _⟩ := x; exact Heap.lt_size e
  | set S n => obtain ⟨o, _, _, _, e, _⟩ := x; exact Heap.lt_size e
  | ins C dx fs => obtain ⟨_, _, _, e, _⟩ := x; exact Heap.lt_size e
  | own y => obtain ⟨_, e⟩ := x; exact Heap.lt_size e
  | xd fs => obtain ⟨_, ⟨_, _, _, e, _⟩, _⟩ := x; exact Heap.lt_size e
  | rng lo hi => obtain ⟨_, _, _, e⟩ := x; exact Heap.lt_size e
  | frz ob u => obtain ⟨e, _⟩ := x; exact Heap.lt_size e
  | tbl ps => exact Heap.lt_size (show h.get? a = some _ from x)
  | met f y => exact Heap.lt_size (show h.get? a = some _ from x)
  | ext φ => obtain ⟨_, ⟨_, e⟩, _⟩ := x; exact Heap.lt_size e
theorem Paired.mapP {α β : Type} {F G : α → β → Prop} : ∀ {l₁ : List α} {l₂ : List β}, Paired F l₁ l₂ → (∀ a b, F a b → G a b) → Paired G l₁ l₂
  | _, _, .nil, _ => .nil
  | _, _, .cons r t, f => .cons (f _ _ r) (Paired.mapP t f)
theorem ObjOk.stay (x : ObjOk P w H h a o) (k : ∀ b u, (b = a ∨ H b = some (.own a)) → h.get? b = some u → h'.get? b = some u)
    (ho : ∀ b, H b = some (.own a) → H' b = some (.own a)) (ht : ∀ b xs, H b = some (.tup xs) → H' b = some (.tup xs)) : ObjOk P w H' h' a o := by
  induction o with
  | lst xs => obtain ⟨z, its, n, r, e⟩ := x; exact ⟨z, its, n, r, k _ _ (.inl rfl) e⟩
  | tup xs => obtain ⟨z, its, r, ob, e, c⟩ := x; exact ⟨z, its, r, ob, k _ _ (.inl rfl) e, c⟩
  | dK kvs => obtain ⟨z, y, vs, r, ob, es, ep, e, c⟩ := x; exact ⟨z, y, vs, r, ob, es, ep, k _ _ (.inl rfl) e, c⟩
  | dT kvs =>
    obtain ⟨z, y, xs, r, ob, es, ep, e, c⟩ := x
    exact ⟨z, y, xs, Paired.mapP r fun p q z => ⟨z.1, ht _ _ z.2.1, z.2.2⟩, ob, es, ep, k _ _ (.inl rfl) e, c⟩
  | set S n => obtain ⟨ob, es, ep, t, e, c⟩ := x; exact ⟨ob, es, ep, t, k _ _ (.inl rfl) e, c⟩
  | ins C dx fs =>
    obtain ⟨d, z, ne, e, mA, ⟨od, es, ep, e2, c⟩, r⟩ := x
    exact ⟨ho _ d, z, ne, k _ _ (.inl rfl) e, mA, ⟨od, es, ep, k _ _ (.inr d) e2, c⟩, r⟩
  | own y => obtain ⟨ob, e⟩ := x; exact ⟨ob, k _ _ (.inl rfl) e⟩
  | xd fs => obtain ⟨mA, ⟨od, es, ep, e, c⟩, r⟩ := x; exact ⟨mA, ⟨od, es, ep, k _ _ (.inl rfl) e, c⟩, r⟩
  | rng lo hi => obtain ⟨t, u, v, e⟩ := x; exact ⟨t, u, v, k _ _ (.inl rfl) e⟩
  | frz ob u ih => obtain ⟨e, q⟩ := x; exact ⟨k _ _ (.inl rfl) e, ih q⟩
  | tbl ps =>
    have e : h.get? a = some { cls := .none, data := .fields ps } := x
    show h'.get? a = some { cls := .none, data := .fields ps }
    exact k a _ (.inl rfl) e
  | met f y =>
    have e : h.get? a = some (PySem.W.methodObj (.ref f) (.ref y)) := x
    show h'.get? a = some (PySem.W.methodObj (.ref f) (.ref y))
    exact k a _ (.inl rfl) e
  | ext φ => obtain ⟨p, ⟨o, e⟩, st⟩ := x; exact ⟨st _ _ p fun o q => k _ _ (.inl rfl) q, ⟨o, k _ _ (.inl rfl) e⟩, st⟩
theorem HOk.lt (x : HOk P w H h) (e : H a = some o) : a < h.objs.size := (x a o e).lt
theorem HOk.fresh (x : HOk P w H h) (e : h.objs.size ≤ a) : H a = none := by
  cases q : H a with
  | none => rfl
  | some u => exact absurd (Nat.lt_of_lt_of_le (x.lt q) e) (Nat.lt_irrefl _)
theorem HOk.kept (x : HOk P w H h) (k : ∀ b u, h.get? b = some u → h'.get? b = some u) : HOk P w H h' := fun a o e =>
  (x a o e).stay (fun b u _ q => k b u q) (fun _ q => q) fun _ _ q => q
theorem HOk.laid (x : HOk P w H h) (k : ∀ b u, h.get? b = some u → h'.get? b = some u) (hp : h.objs.size ≤ a) (new : ObjOk P w (upd H a o) h' a o) : HOk P w (upd H a o) h' := fun b u e => by
  have hn := x.fresh hp
  by_cases hb : b = a
  · subst hb; rw [upd_same] at e; cases e; exact new
  · rw [upd_ne hb] at e
    exact (x b u e).stay (fun c v _ q => k c v q) (fun c q => by rw [upd_ne (ne_of_none q hn)]; exact q) fun c xs q => by rw [upd_ne (ne_of_none q hn)]; exact q
end
noncomputable def Rd (H : Hp) (a : Addr) (u : HO) : Prop := H a = some u ∨ ∃ o, H a = some (.frz o u)
theorem Rd.ok {P : Program} {w : World} {H : Hp} {h : Heap} {a : Addr} {u : HO} (r : Rd H a u) (x : HOk P w H h) : ObjOk P w H h a u := by
  rcases r with r | ⟨o, r⟩
  · exact x a u r
  · obtain ⟨_, q⟩ := x a _ r
    exact q
noncomputable def Mut : Option HO → Prop
  | some (.lst _) => True
  | some (.dK _) => True
  | some (.dT _) => True
  | some (.set _ _) => True
  | some (.ins _ _ _) => True
  | some (.ext _) => True
  | _ => False
section
variable {P : Program} {w : World} {H : Hp} {h h' : Heap} {x e : Addr} {o' : HO}
theorem HOk.write (ok : HOk P w H h) (mu : Mut (H x)) (he : e = x ∨ H e = some (.own x)) (k : ∀ b u, b ≠ e → h.get? b = some u → h'.get? b = some u) (heo : ∃ u, h'.get? e = some u)
    (new : ObjOk P w (upd H x o') h' x o') : HOk P w (upd H x o') h' := fun b u q => by
  have nown : ∀ c y, H c = some (.own y) → c ≠ x := fun c y r z => by subst z; rw [r] at mu; exact mu
  have ntup : ∀ c xs, H c = some (.tup xs) → c ≠ x := fun c xs r z => by subst z; rw [r] at mu; exact mu
  by_cases hb : b = x
  · subst hb; rw [upd_same] at q; cases q; exact new
  · rw [upd_ne hb] at q
    by_cases hbe : b = e
    · have q' : H b = some (.own x) := by
        rcases he with z | z
        · exact absurd (hbe.trans z) hb
        · rw [hbe]; exact z
      rw [q] at q'; cases q'
      obtain ⟨v, hv⟩ := heo
      exact ⟨v, by rw [hbe]; exact hv⟩
    · refine (ok b u q).stay (fun c v hc r => k c v ?_ r) (fun c r => by rw [upd_ne (nown c b r)]; exact r) fun c xs r => by rw [upd_ne (ntup c xs r)]; exact r
      rcases hc with rfl | hc
      · exact hbe
      · rintro rfl
        rcases he with z | z
        · exact nown c b hc z
        · rw [hc] at z; cases z; exact hb rfl
end
structure Un (fs ex : List Addr) (H H' : Hp) (h h' : Heap) : Prop where
  keep : ∀ b o, h.get? b = some o → H b = none → b ∉ fs → b ∉ ex → h'.get? b = some o
  slot : ∀ b o, h.get? b = some o → H b = none → b ∈ fs → b ∉ ex → ∃ sl, h'.get? b = some { o with slots := sl }
  free : ∀ b o, h.get? b = some o → H b = none → b ∉ ex → H' b = none
  there : ∀ b o, h.get? b = some o → b ∉ ex → ∃ o', h'.get? b = some o'
  tups : ∀ b xs, H b = some (.tup xs) → H' b = some (.tup xs)
  frzs : ∀ b o u, H b = some (.frz o u) → H' b = some (.frz o u)
  tbls : ∀ b ps, H b = some (.tbl ps) → ∃ more, H' b = some (.tbl (ps ++ more))
section
variable {fs fs' ex ex' : List Addr} {H H1 H2 : Hp} {h h1 h2 h' : Heap} {a x e : Addr} {o : HO}
theorem Un.any (u : Un fs ex H H1 h h1) {b : Addr} {ob : Obj} (q : h.get? b = some ob) (n : H b = none) (hx : b ∉ ex) : ∃ sl, h1.get? b = some { ob with slots := sl } := by
  by_cases hb : b ∈ fs
  · exact u.slot b ob q n hb hx
  · exact ⟨ob.slots, u.keep b ob q n hb hx⟩
theorem Un.trans (a : Un fs ex H H1 h h1) (b : Un fs ex H1 H2 h1 h2) : Un fs ex H H2 h h2 where
  keep := fun c ob q n hc hx => b.keep c ob (a.keep c ob q n hc hx) (a.free c ob q n hx) hc hx
  slot := fun c ob q n hc hx => by
    obtain ⟨sl, e1⟩ := a.slot c ob q n hc hx
    obtain ⟨sl', e2⟩ := b.slot c _ e1 (a.free c ob q n hx) hc hx
    exact ⟨sl', e2⟩
  free := fun c ob q n hx => by
    obtain ⟨o', e1⟩ := a.there c ob q hx
    exact b.free c o' e1 (a.free c ob q n hx) hx
  there := fun c ob q hx => by
    obtain ⟨o', e1⟩ := a.there c ob q hx
    exact b.there c o' e1 hx
  tups := fun c xs q => b.tups c xs (a.tups c xs q)
  frzs := fun c ob xs q => b.frzs c ob xs (a.frzs c ob xs q)
  tbls := fun c ps q => by
    obtain ⟨m1, e1⟩ := a.tbls c ps q
    obtain ⟨m2, e2⟩ := b.tbls c _ e1
    exact ⟨m1 ++ m2, by rw [e2, Array.append_assoc]⟩
theorem Un.kept (k : ∀ b u, h.get? b = some u → h'.get? b = some u) : Un fs ex H H h h' :=
  ⟨fun b ob q _ _ _ => k b ob q, fun b ob q _ _ _ => ⟨ob.slots, k b ob q⟩, fun _ _ _ n _ => n, fun b ob q _ => ⟨ob, k b ob q⟩, fun _ _ q => q, fun _ _ _ q => q, fun _ ps q => ⟨#[], by rw [q]; simp⟩⟩
theorem Un.refl : Un fs ex H H h h := Un.kept fun _ _ q => q
theorem Un.laid (k : ∀ b u, h.get? b = some u → h'.get? b = some u) (hp : h.objs.size ≤ a) (hn : H a = none) : Un fs ex H (upd H a o) h h' where
  keep := fun b u q _ _ _ => k b u q
  slot := fun b u q _ _ _ => ⟨u.slots, k b u q⟩
  free := fun b u q n _ => by rw [upd_ne (Nat.ne_of_lt (Nat.lt_of_lt_of_le (Heap.lt_size q) hp))]; exact n
  there := fun b u q _ => ⟨u, k b u q⟩
  tups := fun b xs q => by rw [upd_ne (ne_of_none q hn)]; exact q
  frzs := fun b u xs q => by rw [upd_ne (ne_of_none q hn)]; exact q
  tbls := fun b ps q => ⟨#[], by rw [upd_ne (ne_of_none q hn), q]; simp⟩
theorem Un.write (mu : Mut (H x)) (he : e = x ∨ H e = some (.own x)) (k : ∀ b u, b ≠ e → h.get? b = some u → h'.get? b = some u) (heo : ∃ u, h'.get? e = some u) : Un fs ex H (upd H x o) h h' := by
  have hx : ∀ b, H b = none → b ≠ x := fun b n z => by subst z; rw [n] at mu; exact mu
  have hb : ∀ b, H b = none → b ≠ e := fun b n z => by
    subst z
    rcases he with r | r
    · exact hx b n r
    · rw [n] at r; cases r
  have hm : ∀ b u, H b = some u → ¬ Mut (some u) → b ≠ x := fun b u q nm z => by subst z; rw [q] at mu; exact nm mu
  refine ⟨fun b u q n _ _ => k b u (hb b n) q, fun b u q n _ _ => ⟨u.slots, k b u (hb b n) q⟩, fun b u q n _ => by rw [upd_ne (hx b n)]; exact n, fun b u q _ => ?_,
    fun b xs q => by rw [upd_ne (hm b _ q fun z => z)]; exact q, fun b u xs q => by rw [upd_ne (hm b _ q fun z => z)]; exact q, fun b ps q => ⟨#[], by rw [upd_ne (hm b _ q fun z => z), q]; simp⟩⟩
  by_cases hbe : b = e
  · subst hbe; exact heo
  · exact ⟨u, k b u hbe q⟩
end
noncomputable def trk (h : Heap) (H : Hp) : List Addr := (List.range h.objs.size).filter fun a => (H a).isSome
noncomputable def hidT (h : Heap) (H : Hp) : Heap := PySem.W.hideAll h (trk h H)
theorem hidT_size (h : Heap) (H : Hp) : (hidT h H).objs.size = h.objs.size := PySem.W.hideAll_size _ _
theorem hidT_get {h : Heap} {H : Hp} {b : Addr} {o : Obj} (e : h.get? b = some o) (n : H b = none) : (hidT h H).get? b = some o :=
  PySem.W.hideAll_get _ e fun hm => by
    have q : (H b).isSome = true := (List.mem_filter.mp hm).2
    rw [n] at q; simp at q
theorem of_hidT {h : Heap} {H : Hp} {b : Addr} {o : Obj} (e : (hidT h H).get? b = some o) : h.get? b = some o ∧ H b = none := by
  have e' : h.get? b = some o := PySem.W.of_hideAll (trk h H) e
  refine ⟨e', ?_⟩
  cases q : H b with
  | none => rfl
  | some x =>
    have hm : b ∈ trk h H := List.mem_filter.mpr ⟨List.mem_range.mpr (Heap.lt_size e'), by simp [q]⟩
    have z : (hidT h H).get? b = none := PySem.W.hideAll_none (trk h H) hm
    rw [z] at e; cases e
noncomputable def allNews (g h : Heap) (L : Addr) : List (Addr × Obj) := (List.range h.objs.size).filterMap fun a => if a = L ∨ (g.get? a).isSome = true then none else (h.get? a).map fun o => (a, o)
noncomputable def rest (g h : Heap) (L d : Addr) : List (Addr × Obj) := (allNews g h L).filter fun p => decide (p.1 ≠ d)
end L2
namespace L2
open PySem PySem.Spec PyProof.Rows
structure Mod (K : PySem.W.Frag) (mg : Str → Option Value) (base : Heap) : Prop where
  kin : K.In base
  glob : base.Ns mainGlobals mg
  blt : ∃ mb, base.Ns builtinsNs mb ∧ ∀ x : Str, x ≠ "__name__" → mb x = bootBuiltins x
  nolimit : base.NoLimit
structure Cx where
  prog : Program
  w : World
  K : PySem.W.Frag
  mg : Str → Option Value
  base : Heap
  A : Around
  N : List Str
  s₀ : Shared
  H₀ : Hp
  env : Env
  outer : List Env
  stack : List Env
  ex : List Addr
  fn : Str → Bool
  calm : Bool
  pn : List (Addr × Obj)
  xe : Value → Shared → Prop
noncomputable def frs (l : List Env) : List Addr := l.filterMap (·.frame)
noncomputable abbrev Cx.fs (X : Cx) : List Addr := frs X.outer
noncomputable def Vis (sc : Scope) (x : Str) : Prop := sc.names.lookup x = some .local ∨ sc.names.lookup x = some .cell ∨ sc.names.lookup x = some .free
noncomputable def Loc (sc : Scope) (x : Str) : Prop := sc.names.lookup x = some .local ∨ sc.names.lookup x = some .cell
noncomputable def Look (env : Env) (h : Heap) (m : Str → Option Value) (x : Str) (u : Value) : Prop :=
  (env.kindOf x = some .local ∧ m x = some u) ∨ ((env.kindOf x = some .cell ∨ env.kindOf x = some .free) ∧ ∃ c, env.cells.lookup x = some c ∧ h.IsCell c (some u))
structure Cx.Ok (X : Cx) : Prop where
  mod : Mod X.K X.mg X.base
  kind : X.env.scope.kind = .function
  glob : X.env.globals = mainGlobals
  blt : X.env.builtins = builtinsNs
  above : X.s₀.heap.objs.size ≤ X.env.locals
  inj : ∀ x y c, X.env.cells.lookup x = some c → X.env.cells.lookup y = some c → x = y
  has : ∀ x, (X.env.kindOf x = some .cell ∨ X.env.kindOf x = some .free) → ∃ c, X.env.cells.lookup x = some c
  cab : ∀ x c, X.fn x = true → X.env.cells.lookup x = some c → X.s₀.heap.objs.size ≤ c
  hd : X.calm = true → X.A.handled = none
  frames : X.A.frames = some X.stack
  stk : X.stack = X.outer ∨ (X.stack = X.env :: X.outer ∧ X.env.frame = some X.env.locals)
  exf : ∀ b ∈ X.ex, b ≠ X.env.locals ∧ ∀ x c, X.env.cells.lookup x = some c → c ≠ b
  bs : ∀ b o, X.base.get? b = some o → X.s₀.heap.get? b = some o ∧ X.H₀ b = none
  bsz : X.base.objs.size ≤ X.s₀.heap.objs.size
  noex : ∀ b o, X.base.get? b = some o → b ∉ X.ex
  exfs : ∀ b ∈ X.ex, b ∉ X.fs
  funs : X.s₀.heap.FunFrames X.base X.outer
  frf : ∀ b ∈ X.fs, X.H₀ b = none
structure Inv (X : Cx) (pins : List (Addr × Obj)) (σ : List (Option V)) (H : Hp) (s : Shared) : Prop where
  ok : X.Ok
  os : s.os = X.s₀.os
  bare : AllBare s.gens
  base : Un X.fs X.ex X.H₀ H X.s₀.heap s.heap
  loc : ∃ m, s.heap.Ns X.env.locals m ∧ ∀ (i : Nat) (x : Str) (v : V), X.N[i]? = some x → σ[i]? = some (some v) → Vis X.env.scope x → ∃ u, RelV v u ∧ Look X.env s.heap m x u
  cell : ∀ x c, X.env.cells.lookup x = some c → ∃ v, s.heap.IsCell c v
  free : H X.env.locals = none
  freeC : ∀ x c, X.env.cells.lookup x = some c → H c = none
  pin : ∀ p ∈ X.pn ++ pins, s.heap.get? p.1 = some p.2 ∧ H p.1 = none ∧ p.1 ≠ X.env.locals ∧ p.1 ∉ X.fs ∧ ∀ v, p.2.data ≠ .cell v
  hok : HOk X.prog X.w H s.heap
  len : σ.length = X.N.length
section
variable {X : Cx} {pins : List (Addr × Obj)} {σ : List (Option V)} {H H' : Hp} {s : Shared} {h' : Heap}
theorem Cx.Ok.nofr (ok : X.Ok) {b : Addr} {o : Obj} (e : X.base.get? b = some o) : b ∉ X.fs := fun hb => by
  have := (ok.funs.mem hb).1
  rw [e] at this; cases this
theorem Inv.bs (I : Inv X pins σ H s) : ∀ b o, X.base.get? b = some o → s.heap.get? b = some o ∧ H b = none := fun b o e =>
  ⟨I.base.keep b o (I.ok.bs b o e).1 (I.ok.bs b o e).2 (I.ok.nofr e) (I.ok.noex b o e), I.base.free b o (I.ok.bs b o e).1 (I.ok.bs b o e).2 (I.ok.noex b o e)⟩
theorem Inv.bk (I : Inv X pins σ H s) : ∀ b o, X.base.get? b = some o → s.heap.get? b = some o := fun b o e => (I.bs b o e).1
theorem Inv.mod (I : Inv X pins σ H s) : Mod X.K X.mg X.base := I.ok.mod
theorem Inv.kIn (I : Inv X pins σ H s) : X.K.In s.heap := I.ok.mod.kin.keeps I.bk
theorem Inv.nolimit (I : Inv X pins σ H s) : s.heap.NoLimit := I.ok.mod.nolimit.keeps I.bk
theorem Inv.lt (I : Inv X pins σ H s) : X.env.locals < s.heap.objs.size := let ⟨_, hn, _⟩ := I.loc; hn.lt
theorem Inv.sz (I : Inv X pins σ H s) : X.s₀.heap.objs.size ≤ s.heap.objs.size := Nat.le_trans I.ok.above (Nat.le_of_lt I.lt)
theorem Inv.nofs (I : Inv X pins σ H s) {a : Addr} (h : s.heap.objs.size ≤ a) : a ∉ X.fs := fun hb => by
  obtain ⟨_, o, ho, _⟩ := I.ok.funs.mem hb
  exact absurd (Nat.lt_of_lt_of_le (Heap.lt_size ho) (Nat.le_trans I.sz h)) (Nat.lt_irrefl _)
theorem Inv.cne (I : Inv X pins σ H s) : ∀ x c, X.env.cells.lookup x = some c → c ≠ X.env.locals := fun x c e z => by
  obtain ⟨v, o, ho, hd⟩ := I.cell x c e
  obtain ⟨m, ⟨o', es, ep, ho', hd', _⟩, _⟩ := I.loc
  rw [z, ho'] at ho; cases ho; rw [hd'] at hd; cases hd
theorem Inv.funs (I : Inv X pins σ H s) : s.heap.FunFrames X.base X.outer := by
  have all : ∀ (l : List Env), (∀ b ∈ frs l, b ∈ X.fs) → X.s₀.heap.FunFrames X.base l → s.heap.FunFrames X.base l := by
    intro l
    induction l with
    | nil => intro _ _; trivial
    | cons env r ih =>
      intro hs hl
      obtain ⟨hk, ⟨L, o, hf, hn, ho, hd⟩, hr⟩ := hl
      have hL : L ∈ X.fs := hs L (by unfold frs; rw [List.filterMap_cons, hf]; exact List.mem_cons_self)
      obtain ⟨sl, e⟩ := I.base.slot L o ho (I.ok.frf L hL) hL fun z => I.ok.exfs L z hL
      exact ⟨hk, ⟨L, _, hf, hn, e, hd⟩, ih (fun b hb => hs b (by unfold frs; rw [List.filterMap_cons, hf]; exact List.mem_cons_of_mem _ hb)) hr⟩
  exact all X.outer (fun _ hb => hb) I.ok.funs
theorem Inv.stack (I : Inv X pins σ H s) : s.heap.FunFrames X.base X.stack := by
  rcases I.ok.stk with e | ⟨e, hf⟩
  · rw [e]; exact I.funs
  · rw [e]
    obtain ⟨m, hn, _⟩ := I.loc
    refine .cons (by rw [I.ok.kind]; decide) hf hn ?_ I.funs
    exact Heap.get?_none_of_le (Nat.le_trans I.ok.bsz I.ok.above)
theorem Inv.stkSub (I : Inv X pins σ H s) : ∀ b ∈ frs X.stack, b ∈ X.env.locals :: X.fs := fun b hb => by
  rcases I.ok.stk with e | ⟨e, hf⟩
  · rw [e] at hb; exact List.mem_cons_of_mem _ hb
  · rw [e] at hb
    unfold frs at hb
    rw [List.filterMap_cons, hf] at hb
    exact hb
theorem Inv.stkFree (I : Inv X pins σ H s) : ∀ b ∈ frs X.stack, H b = none := fun b hb => by
  rcases List.mem_cons.mp (I.stkSub b hb) with e | hb
  · rw [e]; exact I.free
  · obtain ⟨_, o, ho, _⟩ := I.ok.funs.mem hb
    exact I.base.free b o ho (I.ok.frf b hb) fun z => I.ok.exfs b z hb
theorem Inv.step {g' : Array GenState} {t' : Nat} {d' : Drawn} {ch : List Addr} (I : Inv X pins σ H s)
    (hch : ∀ b ∈ ch, (b ∈ X.ex ∨ X.s₀.heap.objs.size ≤ b) ∧ b ≠ X.env.locals ∧ (∀ x c, X.env.cells.lookup x = some c → c ≠ b) ∧ ∀ p ∈ X.pn ++ pins, p.1 ≠ b)
    (keep : ∀ b o, b ≠ X.env.locals → b ∉ X.fs → b ∉ ch → s.heap.get? b = some o → H b = none → h'.get? b = some o)
    (slot : ∀ b o, b ≠ X.env.locals → b ∈ X.fs → b ∉ ch → s.heap.get? b = some o → H b = none → ∃ sl, h'.get? b = some { o with slots := sl }) (free : ∀ b o, b ∉ ch → s.heap.get? b = some o → H b = none → H' b = none)
    (there : ∀ b o, b ∉ ch → s.heap.get? b = some o → ∃ o', h'.get? b = some o')
    (tups : ∀ b xs, H b = some (.tup xs) → H' b = some (.tup xs)) (frzs : ∀ b o u, H b = some (.frz o u) → H' b = some (.frz o u)) (tbls : ∀ b ps, H b = some (.tbl ps) → ∃ more, H' b = some (.tbl (ps ++ more)))
    (ns : ∀ m, s.heap.Ns X.env.locals m → h'.Ns X.env.locals m) (hok : HOk X.prog X.w H' h') (hg : AllBare g') :
    Inv X pins σ H' { s with heap := h', gens := g', drawn := d', toks := t' } := by
  have neL : ∀ b o, X.s₀.heap.get? b = some o → b ≠ X.env.locals := fun b o e => Nat.ne_of_lt (Nat.lt_of_lt_of_le (Heap.lt_size e) I.ok.above)
  have neC : ∀ b o, X.s₀.heap.get? b = some o → b ∉ X.ex → b ∉ ch := fun b o e hx hb => by
    rcases (hch b hb).1 with z | z
    · exact hx z
    · exact absurd (Nat.lt_of_lt_of_le (Heap.lt_size e) z) (Nat.lt_irrefl _)
  have cellK : ∀ x c, X.env.cells.lookup x = some c → ∀ v, s.heap.IsCell c v → h'.IsCell c v := fun x c e v ⟨o, ho, hd⟩ => by
    have nch : c ∉ ch := fun z => (hch c z).2.2.1 x c e rfl
    by_cases hc : c ∈ X.fs
    · obtain ⟨sl, q⟩ := slot c o (I.cne x c e) hc nch ho (I.freeC x c e)
      exact ⟨_, q, hd⟩
    · exact ⟨o, keep c o (I.cne x c e) hc nch ho (I.freeC x c e), hd⟩
  refine ⟨I.ok, I.os, hg, ⟨fun b o e n hb hx => ?_, fun b o e n hb hx => ?_, fun b o e n hx => ?_, fun b o e hx => ?_, fun b xs e => tups b xs (I.base.tups b xs e), fun b o xs e => frzs b o xs (I.base.frzs b o xs e), fun b ps e => ?_⟩, ?_, fun x c e => ?_, ?_, fun x c e => ?_, fun p hp => ?_, hok, I.len⟩
  · exact keep b o (neL b o e) hb (neC b o e hx) (I.base.keep b o e n hb hx) (I.base.free b o e n hx)
  · obtain ⟨sl, e1⟩ := I.base.slot b o e n hb hx
    obtain ⟨sl', e2⟩ := slot b _ (neL b o e) hb (neC b o e hx) e1 (I.base.free b o e n hx)
    exact ⟨sl', e2⟩
  · obtain ⟨o', e1⟩ := I.base.there b o e hx
    exact free b o' (neC b o e hx) e1 (I.base.free b o e n hx)
  · obtain ⟨o', e1⟩ := I.base.there b o e hx
    exact there b o' (neC b o e hx) e1
  · obtain ⟨m1, e1⟩ := I.base.tbls b ps e
    obtain ⟨m2, e2⟩ := tbls b _ e1
    exact ⟨m1 ++ m2, by rw [e2, Array.append_assoc]⟩
  · obtain ⟨m, hn, hl⟩ := I.loc
    refine ⟨m, ns m hn, fun i x v e1 e2 e3 => ?_⟩
    obtain ⟨u, r, l⟩ := hl i x v e1 e2 e3
    refine ⟨u, r, ?_⟩
    rcases l with l | ⟨k, c, e, z⟩
    · exact .inl l
    · exact .inr ⟨k, c, e, cellK x c e _ z⟩
  · obtain ⟨v, z⟩ := I.cell x c e
    exact ⟨v, cellK x c e v z⟩
  · obtain ⟨m, ⟨o, _, _, ho, _⟩, _⟩ := I.loc
    exact free _ o (fun z => (hch _ z).2.1 rfl) ho I.free
  · obtain ⟨v, o, ho, hd⟩ := I.cell x c e
    exact free c o (fun z => (hch c z).2.2.1 x c e rfl) ho (I.freeC x c e)
  · obtain ⟨e, n, ne, nf, d⟩ := I.pin p hp
    have nch : p.1 ∉ ch := fun z => (hch p.1 z).2.2.2 p hp rfl
    exact ⟨keep p.1 p.2 ne nf nch e n, free p.1 p.2 nch e n, ne, nf, d⟩
theorem Inv.un {t' : Nat} (I : Inv X pins σ H s) (u : Un X.fs [] H H' s.heap h') (hok : HOk X.prog X.w H' h') : Inv X pins σ H' { s with heap := h', toks := t' } := by
  obtain ⟨m, ⟨o, es, ep, ho, r⟩, _⟩ := id I.loc
  obtain ⟨sl, hL⟩ := u.any ho I.free (by simp)
  exact I.step (g' := s.gens) (d' := s.drawn) (ch := []) (fun _ z => nomatch z) (fun b o _ hb _ e n => u.keep b o e n hb (by simp)) (fun b o _ hb _ e n => u.slot b o e n hb (by simp)) (fun b o _ e n => u.free b o e n (by simp)) (fun b o _ e => u.there b o e (by simp)) u.tups u.frzs u.tbls (fun m' hm => by
    obtain ⟨o', es', ep', ho', r'⟩ := hm
    rw [ho] at ho'; cases ho'
    exact ⟨_, es', ep', hL, r'⟩) hok I.bare
theorem Inv.call {g' : Array GenState} {t' : Nat} {d' : Drawn} {ch : List Addr} (I : Inv X pins σ H s) (u : Un (frs X.stack) ch H H' s.heap h') (hok : HOk X.prog X.w H' h') (hg : AllBare g')
    (hch : ∀ b ∈ ch, (b ∈ X.ex ∨ X.s₀.heap.objs.size ≤ b) ∧ b ≠ X.env.locals ∧ (∀ x c, X.env.cells.lookup x = some c → c ≠ b) ∧ ∀ p ∈ X.pn ++ pins, p.1 ≠ b) :
    Inv X pins σ H' { s with heap := h', gens := g', drawn := d', toks := t' } := by
  obtain ⟨m, ⟨o, es, ep, ho, r⟩, _⟩ := id I.loc
  obtain ⟨sl, hL⟩ := u.any ho I.free fun z => (hch _ z).2.1 rfl
  exact I.step (ch := ch) hch (fun b o hL hb hc e n => u.keep b o e n (fun z => (List.mem_cons.mp (I.stkSub b z)).elim hL hb) hc) (fun b o _ _ hc e n => u.any e n hc) (fun b o hc e n => u.free b o e n hc) (fun b o hc e => u.there b o e hc) u.tups u.frzs u.tbls (fun m' hm => by
    obtain ⟨o', es', ep', ho', r'⟩ := hm
    rw [ho] at ho'; cases ho'
    exact ⟨_, es', ep', hL, r'⟩) hok hg
theorem Inv.turned {t' : Nat} {it : Addr} (I : Inv X pins σ H s) (k : ∀ b o, b ≠ it → s.heap.get? b = some o → h'.get? b = some o) (hn : H it = none) (hL : it ≠ X.env.locals)
    (h1 : it ∈ X.ex ∨ X.s₀.heap.objs.size ≤ it) (h2 : ∀ x c, X.env.cells.lookup x = some c → c ≠ it) (h3 : ∀ p ∈ X.pn ++ pins, p.1 ≠ it) : Inv X pins σ H { s with heap := h', toks := t' } := by
  have nit : ∀ b u, H b = some u → b ≠ it := fun b u e z => by rw [z, hn] at e; cases e
  refine I.step (g' := s.gens) (d' := s.drawn) (ch := [it]) (fun b hb => ?_) (fun b o _ _ hc e _ => k b o (fun z => hc (by simp [z])) e) (fun b o _ _ hc e _ => ⟨o.slots, k b o (fun z => hc (by simp [z])) e⟩) (fun _ _ _ _ n => n)
    (fun b o hc e => ⟨o, k b o (fun z => hc (by simp [z])) e⟩) (fun _ _ e => e) (fun _ _ _ e => e) (fun b ps e => ⟨#[], by rw [e]; simp⟩) (fun m hm => ?_) (fun b u e => ?_) I.bare
  · have e : b = it := by simpa using hb
    subst e
    exact ⟨h1, hL, h2, h3⟩
  · obtain ⟨o, es, ep, ho, r⟩ := hm
    exact ⟨o, es, ep, k _ o (Ne.symm hL) ho, r⟩
  · refine (I.hok b u e).stay (fun c v hc q => k c v ?_ q) (fun _ q => q) fun _ _ q => q
    rcases hc with z | z
    · rw [z]; exact nit b u e
    · exact nit c _ z
theorem Inv.tok (I : Inv X pins σ H s) (t : Nat) : Inv X pins σ H { s with toks := t } := I.un (h' := s.heap) (t' := t) Un.refl I.hok
theorem Inv.kept {t' : Nat} (I : Inv X pins σ H s) (k : ∀ b u, s.heap.get? b = some u → h'.get? b = some u) : Inv X pins σ H { s with heap := h', toks := t' } := I.un (Un.kept k) (I.hok.kept k)
theorem Inv.laid {a : Addr} {o : HO} {t' : Nat} (I : Inv X pins σ H s) (k : ∀ b u, s.heap.get? b = some u → h'.get? b = some u) (hp : s.heap.objs.size ≤ a) (new : ObjOk X.prog X.w (upd H a o) h' a o) :
    Inv X pins σ (upd H a o) { s with heap := h', toks := t' } := I.un (Un.laid k hp (I.hok.fresh hp)) (I.hok.laid k hp new)
theorem Inv.write {x e : Addr} {o : HO} {t' : Nat} (I : Inv X pins σ H s) (mu : Mut (H x)) (he : e = x ∨ H e = some (.own x)) (k : ∀ b u, b ≠ e → s.heap.get? b = some u → h'.get? b = some u) (heo : ∃ u, h'.get? e = some u)
    (new : ObjOk X.prog X.w (upd H x o) h' x o) : Inv X pins σ (upd H x o) { s with heap := h', toks := t' } := I.un (Un.write mu he k heo) (I.hok.write mu he k heo new)
theorem Inv.pins_of {pins' : List (Addr × Obj)} (I : Inv X pins σ H s) (h : ∀ p ∈ pins', s.heap.get? p.1 = some p.2 ∧ H p.1 = none ∧ p.1 ≠ X.env.locals ∧ p.1 ∉ X.fs ∧ ∀ v, p.2.data ≠ .cell v) : Inv X pins' σ H s :=
  ⟨I.ok, I.os, I.bare, I.base, I.loc, I.cell, I.free, I.freeC, fun p hp => (List.mem_append.mp hp).elim (fun z => I.pin p (List.mem_append_left _ z)) (h p), I.hok, I.len⟩
theorem nodup_ix {N : List Str} (hN : N.Nodup) {i j : Nat} {x : Str} (a : N[i]? = some x) (b : N[j]? = some x) : i = j := by
  obtain ⟨h1, e1⟩ := List.getElem?_eq_some_iff.mp a
  obtain ⟨h2, e2⟩ := List.getElem?_eq_some_iff.mp b
  exact (List.getElem_inj hN).mp (e1.trans e2.symm)
theorem store_ok2 {M : Model} {A : Around} {E : Value → Shared → Prop} {i : Nat} {x : Str} {v : V} {u : Value} {Q : Unit → Shared → Prop} (I : Inv X pins σ H s) (hN : X.N.Nodup) (hi : X.N[i]? = some x) (hx : Loc X.env.scope x) (r : RelV v u)
    (h : ∀ s', Inv X pins (σ.set i (some v)) H s' → (∃ a, Heap.SameBut a s.heap s'.heap ∧ (a = X.env.locals ∨ X.env.cells.lookup x = some a)) → Q () s') (hf : X.fn x = true ∨ X.env.scope.names.lookup x = some .local := by first | exact .inl rfl | exact .inr rfl | assumption) : wpAny M A (storeName X.env x u) Q E s := by
  obtain ⟨m, hn, hl⟩ := id I.loc
  have hcls : (X.env.scope.kind == .class || (X.env.scope.kind == .module && X.env.locals != X.env.globals)) = false := by rw [I.ok.kind]; rfl
  have hiσ : i < σ.length := by rw [I.len]; exact (List.getElem?_eq_some_iff.mp hi).1
  have cne := I.cne
  have tracked : ∀ {a : Addr} {h' : Heap}, (∃ o, s.heap.get? a = some o ∧ H a = none) → Heap.SameBut a s.heap h' → HOk X.prog X.w H h' := fun {a h'} ha hs b ob e => by
    obtain ⟨_, _, hfree⟩ := ha
    refine (I.hok b ob e).stay (fun c w' hc q => (hs.2 c ?_).trans q) (fun _ q => q) fun _ _ q => q
    rintro rfl
    rcases hc with rfl | hc
    · rw [hfree] at e; cases e
    · rw [hfree] at hc; cases hc
  rcases hx with hk | hk
  · refine wpAny_storeName_local hk hn (fun h' hn' hs => ?_) hcls
    obtain ⟨oL, _, _, hoL, _⟩ := id hn
    refine h _ ⟨I.ok, I.os, I.bare, ⟨fun b o e n hb hx => ?_, fun b o e n hb hx => ?_, I.base.free, fun b o e hx => ?_, I.base.tups, I.base.frzs, I.base.tbls⟩, ⟨_, hn', fun j y v' e1 e2 e3 => ?_⟩, fun y c e => ?_, I.free, I.freeC, fun p hp => ?_, tracked ⟨oL, hoL, I.free⟩ hs, by simpa using I.len⟩ ⟨_, hs, .inl rfl⟩
    · exact (hs.2 b (Nat.ne_of_lt (Nat.lt_of_lt_of_le (Heap.lt_size e) I.ok.above))).trans (I.base.keep b o e n hb hx)
    · obtain ⟨sl, e1⟩ := I.base.slot b o e n hb hx
      exact ⟨sl, (hs.2 b (Nat.ne_of_lt (Nat.lt_of_lt_of_le (Heap.lt_size e) I.ok.above))).trans e1⟩
    · obtain ⟨o', e1⟩ := I.base.there b o e hx
      exact ⟨o', (hs.2 b (Nat.ne_of_lt (Nat.lt_of_lt_of_le (Heap.lt_size e) I.ok.above))).trans e1⟩
    · by_cases hj : j = i
      · subst hj
        rw [hi] at e1; cases e1
        rw [List.getElem?_set_self hiσ] at e2
        cases e2
        exact ⟨u, r, .inl ⟨hk, by simp⟩⟩
      · rw [List.getElem?_set_ne (Ne.symm hj)] at e2
        obtain ⟨u', r', q⟩ := hl j y v' e1 e2 e3
        refine ⟨u', r', ?_⟩
        rcases q with ⟨k, e⟩ | ⟨k, c, e, z⟩
        · refine .inl ⟨k, ?_⟩
          have : y ≠ x := fun e => hj (nodup_ix hN e1 (e ▸ hi))
          simp [this, e]
        · exact .inr ⟨k, c, e, z.sameBut hs (cne y c e)⟩
    · obtain ⟨w', z⟩ := I.cell y c e
      exact ⟨w', z.sameBut hs (cne y c e)⟩
    · obtain ⟨e, n, ne, nf, d⟩ := I.pin p hp
      exact ⟨(hs.2 p.1 ne).trans e, n, ne, nf, d⟩
  · have hfn : X.fn x = true := by
      rcases hf with z | z
      · exact z
      · rw [z] at hk; cases hk
    obtain ⟨c, hc⟩ := I.ok.has x (.inl hk)
    obtain ⟨w', z⟩ := I.cell x c hc
    refine wpAny_storeName_cell I.ok.kind hk hc z (fun h' hc' hs => ?_)
    obtain ⟨oc, hoc, hocd⟩ := id z
    refine h { s with heap := h' } ⟨I.ok, I.os, I.bare, ⟨fun b o e n hb hx => ?_, fun b o e n hb hx => ?_, I.base.free, fun b o e hx => ?_, I.base.tups, I.base.frzs, I.base.tbls⟩, ⟨m, hn.sameBut hs (Ne.symm (cne x c hc)), fun j y v' e1 e2 e3 => ?_⟩, fun y c' e => ?_, I.free, I.freeC, fun p hp => ?_, tracked ⟨oc, hoc, I.freeC x c hc⟩ hs, by simpa using I.len⟩ ⟨c, hs, .inr hc⟩
    · exact (hs.2 b (Nat.ne_of_lt (Nat.lt_of_lt_of_le (Heap.lt_size e) (I.ok.cab x c hfn hc)))).trans (I.base.keep b o e n hb hx)
    · obtain ⟨sl, e1⟩ := I.base.slot b o e n hb hx
      exact ⟨sl, (hs.2 b (Nat.ne_of_lt (Nat.lt_of_lt_of_le (Heap.lt_size e) (I.ok.cab x c hfn hc)))).trans e1⟩
    · obtain ⟨o', e1⟩ := I.base.there b o e hx
      exact ⟨o', (hs.2 b (Nat.ne_of_lt (Nat.lt_of_lt_of_le (Heap.lt_size e) (I.ok.cab x c hfn hc)))).trans e1⟩
    · by_cases hj : j = i
      · subst hj
        rw [hi] at e1; cases e1
        rw [List.getElem?_set_self hiσ] at e2
        cases e2
        exact ⟨u, r, .inr ⟨.inl hk, c, hc, hc'⟩⟩
      · rw [List.getElem?_set_ne (Ne.symm hj)] at e2
        obtain ⟨u', r', q⟩ := hl j y v' e1 e2 e3
        refine ⟨u', r', ?_⟩
        rcases q with q | ⟨k, c', e, z'⟩
        · exact .inl q
        · refine .inr ⟨k, c', e, z'.sameBut hs ?_⟩
          rintro rfl
          exact hj (nodup_ix hN e1 (I.ok.inj _ _ _ e hc ▸ hi))
    · by_cases hcc : c' = c
      · subst hcc; exact ⟨_, hc'⟩
      · obtain ⟨w2, z2⟩ := I.cell y c' e
        exact ⟨w2, z2.sameBut hs hcc⟩
    · obtain ⟨e, n, ne, nf, d⟩ := I.pin p hp
      refine ⟨(hs.2 p.1 ?_).trans e, n, ne, nf, d⟩
      intro q
      rw [q, hoc] at e
      have q' : oc = p.2 := Option.some.inj e
      exact d w' (by rw [← q']; exact hocd)
theorem store_ok {M : Model} {A : Around} {E : Value → Shared → Prop} {i : Nat} {x : Str} {v : V} {u : Value} {Q : Unit → Shared → Prop} (I : Inv X pins σ H s) (hN : X.N.Nodup) (hi : X.N[i]? = some x) (hx : Loc X.env.scope x) (r : RelV v u)
    (h : ∀ s', Inv X pins (σ.set i (some v)) H s' → Q () s') (hf : X.fn x = true ∨ X.env.scope.names.lookup x = some .local := by first | exact .inl rfl | exact .inr rfl | assumption) : wpAny M A (storeName X.env x u) Q E s :=
  store_ok2 I hN hi hx r (fun s' I' _ => h s' I') hf
theorem Inv.call' {s' : Shared} {ch : List Addr} (I : Inv X pins σ H s) (ho : s'.os = s.os) (u : Un (frs X.stack) ch H H' s.heap s'.heap) (hok : HOk X.prog X.w H' s'.heap) (hg : AllBare s'.gens)
    (hch : ∀ b ∈ ch, (b ∈ X.ex ∨ X.s₀.heap.objs.size ≤ b) ∧ b ≠ X.env.locals ∧ (∀ x c, X.env.cells.lookup x = some c → c ≠ b) ∧ ∀ p ∈ X.pn ++ pins, p.1 ≠ b) : Inv X pins σ H' s' := by
  obtain ⟨h', g', d', t', o'⟩ := s'
  have e : o' = s.os := ho
  subst e
  exact I.call (g' := g') (t' := t') (d' := d') u hok hg hch
end
noncomputable abbrev XK := Value → Option Addr → Hp → Prop
noncomputable abbrev St := List (Option V)
noncomputable abbrev VK := V → Hp → Prop
noncomputable abbrev TE := St → Hp → VK → Prop
noncomputable abbrev TT := St → Hp → (Bool → Hp → Prop) → Prop
noncomputable abbrev TA := St → Hp → (List V → Hp → Prop) → Prop
structure Ends where
  nx : St → Hp → Prop
  rt : VK
  bk : St → Hp → Prop := fun _ _ => False
  ct : St → Hp → Prop := fun _ _ => False
noncomputable abbrev TS := Ends → St → Hp → Prop
noncomputable def EP (X : Cx) (pins : List (Addr × Obj)) (σ : St) (Q : VK) (u : Value) (s' : Shared) : Prop := ∃ v H', Inv X pins σ H' s' ∧ RelV v u ∧ Q v H'
noncomputable def TP (X : Cx) (pins : List (Addr × Obj)) (σ : St) (Q : Bool → Hp → Prop) (b : Bool) (s' : Shared) : Prop := ∃ H', Inv X pins σ H' s' ∧ Q b H'
noncomputable def AP (X : Cx) (pins : List (Addr × Obj)) (σ : St) (Q : List V → Hp → Prop) (us : List Value) (s' : Shared) : Prop := ∃ vs H', Inv X pins σ H' s' ∧ Vals vs us ∧ Q vs H'
noncomputable def SP (X : Cx) (pins : List (Addr × Obj)) (D : Ends) (f : Flow) (s' : Shared) : Prop :=
  match f with
  | .next => ∃ σ' H', Inv X pins σ' H' s' ∧ D.nx σ' H'
  | .brk => ∃ σ' H', Inv X pins σ' H' s' ∧ D.bk σ' H'
  | .cont => ∃ σ' H', Inv X pins σ' H' s' ∧ D.ct σ' H'
  | .ret u => ∃ v σ' H', Inv X pins σ' H' s' ∧ RelV v u ∧ D.rt v H'
noncomputable def PE (X : Cx) (e : Expr) (t : TE) : Prop :=
  ∀ (pins : List (Addr × Obj)) (s : Shared) (σ : St) (H : Hp) (Q : VK), Inv X pins σ H s → t σ H Q → wpAny (model X.prog X.w) X.A (eval e X.env) (EP X pins σ Q) X.xe s
noncomputable def PT (X : Cx) (e : Expr) (t : TT) : Prop :=
  ∀ (pins : List (Addr × Obj)) (s : Shared) (σ : St) (H : Hp) (Q : Bool → Hp → Prop), Inv X pins σ H s → t σ H Q → wpAny (model X.prog X.w) X.A (isTrue e X.env (eval e X.env)) (TP X pins σ Q) X.xe s
noncomputable def PW (X : Cx) (e : Expr) (t : TT) : Prop :=
  ∀ (whole : Sem Value) (pins : List (Addr × Obj)) (s : Shared) (σ : St) (H : Hp) (Q : Bool → Hp → Prop), Inv X pins σ H s → t σ H Q → wpAny (model X.prog X.w) X.A (isTrue e X.env whole) (TP X pins σ Q) X.xe s
theorem PW.pt {X : Cx} {e : Expr} {t : TT} (h : PW X e t) : PT X e t := h _
noncomputable def PA (X : Cx) (es : List Expr) (t : TA) : Prop :=
  ∀ (pos : Pos) (pins : List (Addr × Obj)) (s : Shared) (σ : St) (H : Hp) (Q : List V → Hp → Prop), Inv X pins σ H s → t σ H Q → wpAny (model X.prog X.w) X.A (spliced (backTo pos (starEach es X.env))) (AP X pins σ Q) X.xe s
noncomputable def PS (X : Cx) (st : Stmt) (t : TS) : Prop :=
  ∀ (pins : List (Addr × Obj)) (s : Shared) (σ : St) (H : Hp) (D : Ends), Inv X pins σ H s → t D σ H → wpAny (model X.prog X.w) X.A (exec st X.env) (SP X pins D) X.xe s
noncomputable def PSs (X : Cx) (st : List Stmt) (t : TS) : Prop :=
  ∀ (pins : List (Addr × Obj)) (s : Shared) (σ : St) (H : Hp) (D : Ends), Inv X pins σ H s → t D σ H → wpAny (model X.prog X.w) X.A (execs st X.env) (SP X pins D) X.xe s
theorem thn {α : Type} {t : Sem α} {Q Q' : α → Shared → Prop} {M : Model} {A : Around} {E : Value → Shared → Prop} {s : Shared} (h : wpAny M A t Q E s) (hQ : ∀ a s, Q a s → Q' a s) : wpAny M A t Q' E s := wpAny_mono h hQ fun _ _ x => x
end L2
namespace L2
open PySem PySem.Spec PyProof.Rows
section
variable {X : Cx}
noncomputable def tVar (i : Nat) : TE := fun σ H Q => ∃ v, σ[i]? = some (some v) ∧ Q v H
noncomputable def tC (v : V) : TE := fun _ H Q => Q v H
theorem pe_var {i : Nat} {x : Str} {pos : Pos} (hN : X.N[i]? = some x) (hv : Vis X.env.scope x) (hd : (x == ("__debug__" : Str)) = false := by decide) (hcd : (x == ("__classdict__" : Str)) = false := by decide) : PE X (.Name x pos) (tVar i) := by
  intro pins s σ H Q I h
  obtain ⟨v, e, h⟩ := h
  obtain ⟨m, hn, hl⟩ := I.loc
  obtain ⟨u, r, l⟩ := hl i x v hN e hv
  have fin : EP X pins σ Q u s := ⟨v, H, I, r, h⟩
  rcases l with ⟨hk, hm⟩ | ⟨hk, c, hc, hcell⟩
  · exact wpAny_Name (wpAny_loadName_local I.ok.kind hk hn hm fin) hd
  · rcases hk with hk | hk
    · exact wpAny_Name (wpAny_loadName_cell I.ok.kind hk hc hcell fin) hd
    · exact wpAny_Name (wpAny_loadName_free I.ok.kind hk hc hcell fin hcd) hd
theorem pe_int {i j pos} : PE X (.Constant (.int i) j pos) (tC (.int i)) := fun _ _ _ H _ I h => wpAny_Constant_int ⟨.int i, H, I.tok _, ⟨_, rfl⟩, h⟩
theorem pe_bl {b j pos} : PE X (.Constant (.bool b) j pos) (tC (.bl b)) := fun _ _ _ H _ I h => Constant_bool ⟨.bl b, H, I, rfl, h⟩
theorem pe_str {x j pos} : PE X (.Constant (.str x) j pos) (tC (.str x)) := fun _ _ _ H _ I h => Calls.Constant_str ⟨.str x, H, I.tok _, ⟨_, rfl⟩, h⟩
noncomputable def Gl (X : Cx) (x : Str) : Prop := X.env.kindOf x = some .globalImplicit
theorem ld_glob {E : Value → Shared → Prop} {pins : List (Addr × Obj)} {s : Shared} {σ : St} {H : Hp} {x : Str} {u : Value} {pos : Pos} {Q : Value → Shared → Prop} (I : Inv X pins σ H s) (hg : Gl X x) (hm : X.mg x = some u) (h : Q u s)
    (hd : (x == ("__debug__" : Str)) = false := by decide) : wpAny (model X.prog X.w) X.A (eval (.Name x pos) X.env) Q E s :=
  Calls.Name_function_global I.ok.kind hg (Calls.loadGlobal_global (by rw [I.ok.glob]; exact I.mod.glob.keeps I.bk) hm h) hd
theorem ld_blt {E : Value → Shared → Prop} {pins : List (Addr × Obj)} {s : Shared} {σ : St} {H : Hp} {x : Str} {u : Value} {pos : Pos} {Q : Value → Shared → Prop} (I : Inv X pins σ H s) (hg : Gl X x) (hm : X.mg x = none) (hv : bootBuiltins x = some u) (h : Q u s)
    (hn : x ≠ "__name__" := by decide) (hd : (x == ("__debug__" : Str)) = false := by decide) : wpAny (model X.prog X.w) X.A (eval (.Name x pos) X.env) Q E s := by
  obtain ⟨mb, h1, h2⟩ := I.mod.blt
  exact Calls.Name_function_global I.ok.kind hg (Calls.loadGlobal_builtin (by rw [I.ok.glob]; exact I.mod.glob.keeps I.bk) hm (by rw [I.ok.blt]; exact h1.keeps I.bk) ((h2 x hn).trans hv) h) hd
theorem pe_glob {x : Str} {v : V} {u : Value} {pos : Pos} (hg : Gl X x) (hm : X.mg x = some u) (r : RelV v u) (hd : (x == ("__debug__" : Str)) = false := by decide) : PE X (.Name x pos) (tC v) :=
  fun _ _ _ H _ I h => ld_glob I hg hm ⟨v, H, I, r, h⟩ hd
theorem pe_bltn {x : Str} {v : V} {u : Value} {pos : Pos} (hg : Gl X x) (hm : X.mg x = none) (hv : bootBuiltins x = some u) (r : RelV v u) (hn : x ≠ "__name__" := by decide) (hd : (x == ("__debug__" : Str)) = false := by decide) : PE X (.Name x pos) (tC v) :=
  fun _ _ _ H _ I h => ld_blt I hg hm hv ⟨v, H, I, r, h⟩ hn hd
variable {a b : Expr} {ta tb : TE} {pos : Pos}
variable {tA tB' : TT} {rest : List Expr}
noncomputable def tAnd (t u : TT) : TT := fun σ H Q => t σ H fun c H1 => if c = true then u σ H1 Q else Q false H1
noncomputable def tOr (t u : TT) : TT := fun σ H Q => t σ H fun c H1 => if c = true then Q true H1 else u σ H1 Q
noncomputable def tNot (t : TT) : TT := fun σ H Q => t σ H fun c H1 => Q (!c) H1
theorem pw_and1 (ha : PT X a tA) : PW X (.BoolOp .And [a] pos) tA := by
  intro wh pins s σ H Q I h
  refine isTrue_and (thn (ha pins s σ H Q I h) fun c s1 e => ?_)
  cases c with
  | true => exact isTrue_and_nil e
  | false => exact e
theorem pw_or1 (ha : PT X a tA) : PW X (.BoolOp .Or [a] pos) tA := by
  intro wh pins s σ H Q I h
  refine isTrue_or (thn (ha pins s σ H Q I h) fun c s1 e => ?_)
  cases c with
  | false => exact isTrue_or_nil e
  | true => exact e
theorem pw_and (ha : PT X a tA) (hb : PW X (.BoolOp .And (b :: rest) pos) tB') : PW X (.BoolOp .And (a :: b :: rest) pos) (tAnd tA tB') := by
  intro wh pins s σ H Q I h
  refine isTrue_and (thn (ha pins s σ H _ I h) fun c s1 ⟨H1, I1, q1⟩ => ?_)
  cases c with
  | true => exact hb wh pins s1 σ H1 Q I1 q1
  | false => exact ⟨H1, I1, q1⟩
theorem pw_or (ha : PT X a tA) (hb : PW X (.BoolOp .Or (b :: rest) pos) tB') : PW X (.BoolOp .Or (a :: b :: rest) pos) (tOr tA tB') := by
  intro wh pins s σ H Q I h
  refine isTrue_or (thn (ha pins s σ H _ I h) fun c s1 ⟨H1, I1, q1⟩ => ?_)
  cases c with
  | true => exact ⟨H1, I1, q1⟩
  | false => exact hb wh pins s1 σ H1 Q I1 q1
theorem pt_not (ha : PT X a tA) : PT X (.UnaryOp .Not a pos) (tNot tA) := by
  intro pins s σ H Q I h
  exact isTrue_not (ha pins s σ H (fun c H1 => Q (!c) H1) I h)
noncomputable def tAndV (ta tb : TE) : TE := fun σ H Q => ta σ H fun x H1 => ∃ c, x = .bl c ∧ if c = true then tb σ H1 Q else Q (.bl false) H1
noncomputable def tOrV (ta tb : TE) : TE := fun σ H Q => ta σ H fun x H1 => ∃ c, x = .bl c ∧ if c = true then Q (.bl true) H1 else tb σ H1 Q
noncomputable def tNotV (ta : TE) : TE := fun σ H Q => ta σ H fun x H1 => ∃ c, x = .bl c ∧ Q (.bl (!c)) H1
theorem pe_one {op} {t : TE} (h : PE X a t) : PE X (.BoolOp op [a] pos) t := fun pins s σ H Q I hw => BoolOp_one (h pins s σ H Q I hw)
theorem pe_and (ha : PE X a ta) (hb : PE X (.BoolOp .And (b :: rest) pos) tb) : PE X (.BoolOp .And (a :: b :: rest) pos) (tAndV ta tb) := by
  intro pins s σ H Q I h
  refine BoolOp_and (thn (ha pins s σ H _ I h) fun v s1 ⟨x, H1, I1, r1, q1⟩ => ?_)
  obtain ⟨c, rfl, q1⟩ := q1
  cases r1
  refine wpAny_truthy_bool ?_
  cases c with
  | true => exact hb pins s1 σ H1 Q I1 q1
  | false => exact ⟨.bl false, H1, I1, rfl, q1⟩
theorem pe_or (ha : PE X a ta) (hb : PE X (.BoolOp .Or (b :: rest) pos) tb) : PE X (.BoolOp .Or (a :: b :: rest) pos) (tOrV ta tb) := by
  intro pins s σ H Q I h
  refine BoolOp_or (thn (ha pins s σ H _ I h) fun v s1 ⟨x, H1, I1, r1, q1⟩ => ?_)
  obtain ⟨c, rfl, q1⟩ := q1
  cases r1
  refine wpAny_truthy_bool ?_
  cases c with
  | false => exact hb pins s1 σ H1 Q I1 q1
  | true => exact ⟨.bl true, H1, I1, rfl, q1⟩
theorem pe_not (ha : PE X a ta) : PE X (.UnaryOp .Not a pos) (tNotV ta) := by
  intro pins s σ H Q I h
  refine UnaryOp_ (thn (ha pins s σ H _ I h) fun v s1 ⟨x, H1, I1, r1, q1⟩ => ?_)
  obtain ⟨c, rfl, q1⟩ := q1
  cases r1
  exact not_of (wpAny_truthy_bool ⟨.bl (!c), H1, I1, rfl, q1⟩)
noncomputable def tIf (t : TT) (ta tb : TE) : TE := fun σ H Q => t σ H fun c H1 => if c = true then ta σ H1 Q else tb σ H1 Q
theorem pe_ifExp {c : Expr} (hc : PT X c tA) (ha : PE X a ta) (hb : PE X b tb) : PE X (.IfExp c a b pos) (tIf tA ta tb) := by
  intro pins s σ H Q I h
  refine wpAny_IfExp (thn (hc pins s σ H _ I h) fun d s1 ⟨H1, I1, q1⟩ => ?_)
  cases d with
  | true => exact ha pins s1 σ H1 Q I1 q1
  | false => exact hb pins s1 σ H1 Q I1 q1
end
end L2
namespace L2
open PySem PySem.Spec PyProof.Rows
noncomputable def SqL (K : PySem.W.Frag) (H : Hp) (a : Addr) (xs : List V) : Prop :=
  Rd H a (.lst xs) ∨
    ∃ (o : Obj) (its : Array Value) (n : Nat), K.lookup a = some o ∧ o.cls = .type "list" ∧ o.dict = none ∧ o.data = .seq its n ∧ its.size ≤ sizeLine ∧ Vals xs its.toList
noncomputable def SqT (K : PySem.W.Frag) (H : Hp) (a : Addr) (xs : List V) : Prop :=
  Rd H a (.tup xs) ∨
    ∃ (o : Obj) (its : Array Value) (n : Nat), K.lookup a = some o ∧ o.cls = .type "tuple" ∧ o.data = .seq its n ∧ its.size ≤ sizeLine ∧ Vals xs its.toList
noncomputable def absV : Value → Option V
  | .none => some .non
  | .bool b => some (.bl b)
  | .int i _ => some (.int i)
  | .str x _ => some (.str x)
  | .bytes b _ => some (.byt b)
  | .float b _ => some (.flt b)
  | .ref a => some (.ref a)
  | .type n => some (.ty n)
  | _ => none
theorem RelV.abs {x : V} {u : Value} (r : RelV x u) : absV u = some x := by
  cases x with
  | non => cases r; rfl
  | bl _ => cases r; rfl
  | int _ => obtain ⟨t, rfl⟩ := r; rfl
  | str _ => obtain ⟨t, rfl⟩ := r; rfl
  | byt _ => obtain ⟨t, rfl⟩ := r; rfl
  | flt _ => obtain ⟨t, rfl⟩ := r; rfl
  | ref _ => cases r; rfl
  | ty _ => cases r; rfl
theorem RelV.inj {x y : V} {u : Value} (r : RelV x u) (q : RelV y u) : x = y := Option.some.inj (r.abs.symm.trans q.abs)
theorem Vals.inj : ∀ {xs ys : List V} {us : List Value}, Vals xs us → Vals ys us → xs = ys
  | _, _, _, .nil, .nil => rfl
  | _, _, _, .cons r t, .cons r' t' => by rw [r.inj r', Vals.inj t t']
section
variable {X : Cx} {pins : List (Addr × Obj)} {σ : St} {H : Hp} {s : Shared} {a : Addr} {xs ys : List V}
theorem SqL.of {K : PySem.W.Frag} (h : H a = some (.lst xs)) : SqL K H a xs := .inl (.inl h)
theorem SqT.of {K : PySem.W.Frag} (h : H a = some (.tup xs)) : SqT K H a xs := .inl (.inl h)
theorem Inv.list (I : Inv X pins σ H s) (h : SqL X.K H a xs) : ∃ its : List Value, Vals xs its ∧ PlainL s.heap a its.toArray ∧ xs.length ≤ sizeLine := by
  rcases h with h | ⟨o, its, n, hk, hc, hd, hs, hz, r⟩
  · obtain ⟨z, its, n, r, e⟩ := h.ok I.hok
    exact ⟨its, r, ⟨_, n, e, rfl, rfl, rfl⟩, z⟩
  · refine ⟨its.toList, r, ⟨o, n, I.kIn a o hk, hc, hd, by simpa using hs⟩, ?_⟩
    have e := r.length
    simp only [Array.length_toList] at e
    omega
theorem Inv.tuple (I : Inv X pins σ H s) (h : SqT X.K H a xs) : ∃ its : List Value, Vals xs its ∧ IsTup s.heap a its.toArray ∧ xs.length ≤ sizeLine := by
  rcases h with h | ⟨o, its, n, hk, hc, hs, hz, r⟩
  · obtain ⟨z, its, r, p⟩ := h.ok I.hok
    exact ⟨its, r, p, z⟩
  · refine ⟨its.toList, r, ⟨o, I.kIn a o hk, hc, n, by simpa using hs⟩, ?_⟩
    have e := r.length
    simp only [Array.length_toList] at e
    omega
theorem Inv.list_inj (I : Inv X pins σ H s) (h : SqL X.K H a xs) (h' : SqL X.K H a ys) : xs = ys := by
  obtain ⟨its, r, ⟨o, n, e, _, _, d⟩, _⟩ := I.list h
  obtain ⟨its', r', ⟨o', n', e', _, _, d'⟩, _⟩ := I.list h'
  rw [e] at e'; cases e'
  rw [d] at d'
  injection d' with d1 _
  have : its = its' := by simpa using congrArg Array.toList d1
  subst this
  exact r.inj r'
theorem Inv.tuple_inj (I : Inv X pins σ H s) (h : SqT X.K H a xs) (h' : SqT X.K H a ys) : xs = ys := by
  obtain ⟨its, r, ⟨o, e, _, n, d⟩, _⟩ := I.tuple h
  obtain ⟨its', r', ⟨o', e', _, n', d'⟩, _⟩ := I.tuple h'
  rw [e] at e'; cases e'
  rw [d] at d'
  injection d' with d1 _
  have : its = its' := by simpa using congrArg Array.toList d1
  subst this
  exact r.inj r'
end
noncomputable abbrev Cx.wish (X : Cx) (E : Value → Shared → Prop) : Cx := { X with xe := E }
noncomputable abbrev Cx.nox (X : Cx) : Cx := X.wish fun _ _ => False
theorem Cx.Ok.wish {X : Cx} (ok : X.Ok) (E : Value → Shared → Prop) : (X.wish E).Ok :=
  ⟨ok.mod, ok.kind, ok.glob, ok.blt, ok.above, ok.inj, ok.has, ok.cab, ok.hd, ok.frames, ok.stk, ok.exf, ok.bs, ok.bsz, ok.noex, ok.exfs, ok.funs, ok.frf⟩
theorem Cx.Ok.unwish {X : Cx} {E : Value → Shared → Prop} (ok : (X.wish E).Ok) : X.Ok :=
  ⟨ok.mod, ok.kind, ok.glob, ok.blt, ok.above, ok.inj, ok.has, ok.cab, ok.hd, ok.frames, ok.stk, ok.exf, ok.bs, ok.bsz, ok.noex, ok.exfs, ok.funs, ok.frf⟩
section
variable {X : Cx} {pins : List (Addr × Obj)} {σ : St} {H : Hp} {s : Shared} {E : Value → Shared → Prop}
theorem Inv.wish (I : Inv X pins σ H s) (E : Value → Shared → Prop) : Inv (X.wish E) pins σ H s := ⟨I.ok.wish E, I.os, I.bare, I.base, I.loc, I.cell, I.free, I.freeC, I.pin, I.hok, I.len⟩
theorem Inv.unwish (I : Inv (X.wish E) pins σ H s) : Inv X pins σ H s := ⟨I.ok.unwish, I.os, I.bare, I.base, I.loc, I.cell, I.free, I.freeC, I.pin, I.hok, I.len⟩
theorem SP.unwish {D : Ends} {f : Flow} {s' : Shared} (h : SP (X.wish E) pins D f s') : SP X pins D f s' := by
  cases f with
  | next => obtain ⟨σ', H', I, q⟩ := h; exact ⟨σ', H', I.unwish, q⟩
  | brk => obtain ⟨σ', H', I, q⟩ := h; exact ⟨σ', H', I.unwish, q⟩
  | cont => obtain ⟨σ', H', I, q⟩ := h; exact ⟨σ', H', I.unwish, q⟩
  | ret u => obtain ⟨v, σ', H', I, r, q⟩ := h; exact ⟨v, σ', H', I.unwish, r, q⟩
theorem PSs.nox {st : List Stmt} {t : TS} (h : PSs X.nox st t) : PSs X st t := fun pins s σ H D I hw =>
  wpAny_mono (h pins s σ H D (I.wish _) hw) (fun _ _ q => q.unwish) fun _ _ z => False.elim z
end
section
variable {X : Cx} {st : Stmt} {rest : List Stmt} {t u : TS} {e : Expr} {te : TE} {pos : Pos}
noncomputable def tNext : TS := fun D σ H => D.nx σ H
noncomputable def tSeq (t u : TS) : TS := fun D σ H => t { D with nx := u D } σ H
theorem pss_nil : PSs X [] tNext := fun _ _ σ H _ I h => wpAny_execs_nil ⟨σ, H, I, h⟩
theorem pss_cons (h1 : PS X st t) (h2 : PSs X rest u) : PSs X (st :: rest) (tSeq t u) := by
  intro pins s σ H D I h
  refine wpAny_execs_cons (thn (h1 pins s σ H { D with nx := u D } I h) fun f s1 q => ?_)
  cases f with
  | next =>
    obtain ⟨σ', H', I', q⟩ := q
    exact h2 pins s1 σ' H' D I' q
  | ret v => exact q
  | brk => exact q
  | cont => exact q
theorem pss_one (h1 : PS X st t) : PSs X [st] t := by
  intro pins s σ H D I h
  refine wpAny_execs_cons (thn (h1 pins s σ H D I h) fun f s1 q => ?_)
  cases f with
  | next => exact wpAny_execs_nil q
  | ret v => exact q
  | brk => exact q
  | cont => exact q
theorem Inv.quiet {pins : List (Addr × Obj)} {σ : St} {H : Hp} {s : Shared} (I : Inv X pins σ H s) : interactive X.env = false := by simp [interactive, I.ok.kind]
noncomputable def tDrop (te : TE) : TS := fun D σ H => te σ H fun _ H1 => D.nx σ H1
theorem ps_expr (he : PE X e te) (hs : swapsWith e none pos.line X.env = pure false := by rfl) : PS X (.Expr e pos) (tDrop te) := by
  intro pins s σ H D I h
  exact wpAny_Expr_any (thn (he pins s σ H _ I h) fun v s1 ⟨x, H1, I1, r1, q1⟩ => ⟨σ, H1, I1, q1⟩) I.quiet hs
noncomputable def tRet (te : TE) : TS := fun D σ H => te σ H D.rt
theorem ps_ret (he : PE X e te) : PS X (.Return (some e) pos) (tRet te) := by
  intro pins s σ H D I h
  exact wpAny_Return_some (thn (he pins s σ H _ I h) fun v s1 ⟨x, H1, I1, r1, q1⟩ => ⟨x, σ, H1, I1, r1, q1⟩)
noncomputable def tIfS (c : TT) (t u : TS) : TS := fun D σ H => c σ H fun b H1 => if b = true then t D σ H1 else u D σ H1
theorem ps_if {c : Expr} {a b : List Stmt} {tc : TT} (hc : PT X c tc) (ha : PSs X a t) (hb : PSs X b u) : PS X (.If c a b pos) (tIfS tc t u) := by
  intro pins s σ H D I h
  refine wpAny_If (thn (hc pins s σ H _ I h) fun d s1 ⟨H1, I1, q1⟩ => ?_)
  cases d with
  | true => exact ha pins s1 σ H1 D I1 q1
  | false => exact hb pins s1 σ H1 D I1 q1
noncomputable def tNever : TS := fun _ _ _ => False
theorem ps_never : PS X st tNever := fun _ _ _ _ _ _ h => h.elim
end
noncomputable abbrev TG := V → St → Hp → (St → Hp → Prop) → Prop
noncomputable abbrev TGs := List V → St → Hp → (St → Hp → Prop) → Prop
noncomputable def PG (X : Cx) (target : Expr) (t : TG) : Prop :=
  ∀ (pins : List (Addr × Obj)) (s : Shared) (σ : St) (H : Hp) (v : V) (u : Value) (Q : St → Hp → Prop), Inv X pins σ H s → RelV v u → t v σ H Q →
    wpAny (model X.prog X.w) X.A (assign target X.env u) (fun _ s' => ∃ σ' H', Inv X pins σ' H' s' ∧ Q σ' H') X.xe s
noncomputable def PGs (X : Cx) (ts : List Expr) (t : TGs) : Prop :=
  ∀ (pins : List (Addr × Obj)) (s : Shared) (σ : St) (H : Hp) (vs : List V) (us : List Value) (Q : St → Hp → Prop), Inv X pins σ H s → Vals vs us → t vs σ H Q →
    wpAny (model X.prog X.w) X.A (assignInOrder ((assignEach ts X.env).map (·.2)) us) (fun _ s' => ∃ σ' H', Inv X pins σ' H' s' ∧ Q σ' H') X.xe s
section
variable {X : Cx} {pos : Pos}
noncomputable def gName (i : Nat) : TG := fun v σ H Q => Q (σ.set i (some v)) H
theorem pg_name {i : Nat} {x : Str} (hN : X.N.Nodup) (hi : X.N[i]? = some x) (hx : Loc X.env.scope x) (hf : X.fn x = true ∨ X.env.scope.names.lookup x = some .local := by first | exact .inl rfl | exact .inr rfl | assumption) : PG X (.Name x pos) (gName i) := by
  intro pins s σ H v u Q I r h
  exact wpAny_assign_Name (store_ok I hN hi hx r (fun s' I' => ⟨_, H, I', h⟩) hf)
noncomputable def gNil : TGs := fun vs σ H Q => vs = [] ∧ Q σ H
noncomputable def gCons (t : TG) (u : TGs) : TGs := fun vs σ H Q => ∃ v r, vs = v :: r ∧ t v σ H fun σ' H' => u r σ' H' Q
theorem pgs_nil : PGs X [] gNil := by
  intro pins s σ H vs us Q I r h
  obtain ⟨e, h⟩ := h
  subst e
  cases r
  exact assignInOrder_nil ⟨σ, H, I, h⟩
theorem pgs_cons {e : Expr} {es : List Expr} {t : TG} {u : TGs} (h1 : PG X e t) (h2 : PGs X es u)
    (hs : (assignEach (e :: es) X.env).map (·.2) = assign e X.env :: (assignEach es X.env).map (·.2) := by rfl) : PGs X (e :: es) (gCons t u) := by
  intro pins s σ H vs us Q I r h
  obtain ⟨v, vr, e1, h⟩ := h
  subst e1
  cases r with
  | cons r rr =>
    rw [hs]
    refine assignInOrder_cons (thn (h1 pins s σ H _ _ _ I r h) fun _ s1 ⟨σ1, H1, I1, q1⟩ => ?_)
    exact h2 pins s1 σ1 H1 _ _ Q I1 rr q1
noncomputable def gTup (K : PySem.W.Frag) (n : Nat) (t : TGs) : TG := fun v σ H Q => ∃ a xs, v = .ref a ∧ SqT K H a xs ∧ xs.length = n ∧ t xs σ H Q
theorem pg_tup {es : List Expr} {k : Nat} {t : TGs} {n : Nat} (hc : X.calm = true) (h : PGs X es t)
    (hn : (assignEach es X.env).length = n := by rfl) (hst : (assignEach es X.env).findIdx? (·.1) = none := by rfl) : PG X (.Tuple es k pos) (gTup X.K n t) := by
  intro pins s σ H v u Q I r hw
  obtain ⟨a, xs, e1, hq, hl, hw⟩ := hw
  subst e1
  cases r
  obtain ⟨its, rv, ht, hz⟩ := I.tuple hq
  refine assign_Tuple_tuple (I.ok.hd hc) ht (by simp [hn, ← hl, rv.length]) hst fun h' hx => ?_
  have I1 : Inv X pins σ H { s with heap := h' } := I.kept (t' := s.toks) fun b o e => hx b o (Nat.ne_of_lt (Heap.lt_size e)) e
  exact h pins _ σ H xs _ Q I1 (by simpa using rv) hw
noncomputable def tAsg (te : TE) (g : TG) : TS := fun D σ H => te σ H fun x H1 => g x σ H1 D.nx
theorem ps_set {i : Nat} {x : Str} {e : Expr} {te : TE} {pos' : Pos} (hN : X.N.Nodup) (hi : X.N[i]? = some x) (hx : Loc X.env.scope x) (he : PE X e te) (hs : swapsWith e (some (.Name x pos')) pos.line X.env = pure false := by rfl) (hf : X.fn x = true ∨ X.env.scope.names.lookup x = some .local := by first | exact .inl rfl | exact .inr rfl | assumption) :
    PS X (.Assign [.Name x pos'] e pos) (tAsg te (gName i)) := by
  intro pins s σ H D I h
  refine wpAny_Assign_Name (thn (he pins s σ H _ I h) fun v s1 ⟨y, H1, I1, r1, q1⟩ => ?_) hs
  exact store_ok I1 hN hi hx r1 (fun s2 I2 => ⟨_, H1, I2, q1⟩) hf
end
structure It where
  go : Nat → Hp → Prop
  yld : Nat → Hp → V → Hp → Prop
  stop : Nat → Hp → Prop
noncomputable def FpOk (X : Cx) (pins : List (Addr × Obj)) (H : Hp) (b : Addr) : Prop :=
  H b = none ∧ b ≠ X.env.locals ∧ b ∉ X.fs ∧ (b ∈ X.ex ∨ X.s₀.heap.objs.size ≤ b) ∧ (∀ x c, X.env.cells.lookup x = some c → c ≠ b) ∧ ∀ p ∈ X.pn ++ pins, p.1 ≠ b
theorem Inv.fpOk {X : Cx} {pins : List (Addr × Obj)} {σ : St} {H H' : Hp} {s : Shared} {b : Addr} (I : Inv X pins σ H s) (hb : s.heap.objs.size ≤ b) (hn : H' b = none) : FpOk X pins H' b := by
  refine ⟨hn, Nat.ne_of_gt (Nat.lt_of_lt_of_le I.lt hb), I.nofs hb, .inr (Nat.le_trans I.sz hb), fun x c e z => ?_, fun p hp z => ?_⟩
  · obtain ⟨v, q⟩ := I.cell x c e
    exact absurd (Nat.lt_of_lt_of_le q.lt (by rw [z]; exact hb)) (Nat.lt_irrefl _)
  · exact absurd (Nat.lt_of_lt_of_le (Heap.lt_size (I.pin p hp).1) (by rw [z]; exact hb)) (Nat.lt_irrefl _)
structure Turn (P : Program) (w : World) (K : PySem.W.Frag) (tg : Expr) (J : It) (fp : List Addr) (it : Addr) (tn : Nat → Heap → Prop) : Prop where
  mem : it ∈ fp
  obj : ∀ i h, tn i h → ∀ b ∈ fp, ∃ o, h.get? b = some o ∧ ∀ v, o.data ≠ .cell v
  keep : ∀ i h h', tn i h → (∀ b ∈ fp, ∀ o, h.get? b = some o → h'.get? b = some o) → tn i h'
  item : ∀ (X : Cx), X.prog = P → X.w = w → X.K = K → X.calm = true → ∀ (i : Nat) (pins : List (Addr × Obj)) (s : Shared) (σ : St) (H : Hp) (E : Value → Shared → Prop), Inv X pins σ H s → (∀ b ∈ fp, FpOk X pins H b) → tn i s.heap → J.go i H →
    wpAny (model P w) X.A (pyNext (.ref it)) (fun r s1 => ∃ u, r = some u ∧
      wpAny (model P w) X.A (letOwnedTupleGo tg (.ref it) u) (fun _ s2 => ∃ x H', Inv X pins σ H' s2 ∧ RelV x u ∧ J.yld i H x H' ∧ tn (i + 1) s2.heap ∧ ∀ b ∈ fp, H' b = none) E s1) E s
  done : ∀ (X : Cx), X.prog = P → X.w = w → X.K = K → X.calm = true → ∀ (i : Nat) (pins : List (Addr × Obj)) (s : Shared) (σ : St) (H : Hp) (E : Value → Shared → Prop), Inv X pins σ H s → (∀ b ∈ fp, FpOk X pins H b) → tn i s.heap → J.stop i H →
    wpAny (model P w) X.A (pyNext (.ref it)) (fun r s1 => r = none ∧ Inv X pins σ H s1) E s
  self : ∀ (A : Around) (i : Nat) (s : Shared) (Q : Value → Shared → Prop) (E : Value → Shared → Prop), tn i s.heap → Q (.ref it) s → wpAny (model P w) A (pyIter (.ref it)) Q E s
noncomputable abbrev TI := St → Hp → (It → Hp → Prop) → Prop
noncomputable def PIE (X : Cx) (pins : List (Addr × Obj)) (σ : St) (tg : Expr) (R : It → Hp → Prop) (itv : Value) (s2 : Shared) : Prop :=
  ∃ (it : Addr) (fp : List Addr) (tn : Nat → Heap → Prop) (J : It) (H' : Hp), itv = .ref it ∧ Inv X pins σ H' s2 ∧ Turn X.prog X.w X.K tg J fp it tn ∧ tn 0 s2.heap ∧ (∀ b ∈ fp, FpOk X pins H' b) ∧ R J H'
noncomputable def PI (X : Cx) (tg iter : Expr) (wi : TI) : Prop :=
  ∀ (pins : List (Addr × Obj)) (s : Shared) (σ : St) (H : Hp) (R : It → Hp → Prop), Inv X pins σ H s → wi σ H R →
    wpAny (model X.prog X.w) X.A (eval iter X.env) (fun v s1 => wpAny (model X.prog X.w) X.A (pyIter v) (PIE X pins σ tg R) X.xe s1) X.xe s
theorem go_of {M : Model} {A : Around} {E : Value → Shared → Prop} {s : Shared} {tg : Expr} {it : Addr} {u : Value} {o : Obj} {n : String} {vs : Array Value} {Q : Unit → Shared → Prop} (ho : s.heap.get? it = some o) (hc : o.cls = .type n) (hd : o.data = .fields vs)
    (hn : ["enumerate", "zip", "dict_itemiterator", "dict_reverseitemiterator", "odict_iterator", "itertools.zip_longest", "itertools.pairwise"].contains n = false) (hQ : Q () s) : wpAny M A (letOwnedTupleGo tg (.ref it) u) Q E s := by
  unfold letOwnedTupleGo
  cases tg <;> first
    | exact wpAny_pure hQ
    | (cases u <;> first
        | exact wpAny_pure hQ
        | (refine wpAny_bind (wpAny_load ho ?_)
           rw [hc, hd]
           show wpAny M A (if (["enumerate", "zip", "dict_itemiterator", "dict_reverseitemiterator", "odict_iterator", "itertools.zip_longest", "itertools.pairwise"].contains n && vs[0]? == some (rawInt _)) = true then _ else _) Q E s
           rw [if_neg (by intro h; rw [hn, Bool.false_and] at h; cases h)]
           exact wpAny_pure hQ))
noncomputable def Itl (K : PySem.W.Frag) (a : Addr) : It :=
  ⟨fun i H => ∃ xs x, SqL K H a xs ∧ xs[i]? = some x, fun i H x H' => H' = H ∧ ∀ xs, SqL K H a xs → xs[i]? = some x, fun i H => ∃ xs, SqL K H a xs ∧ xs.length ≤ i⟩
noncomputable def Itt (K : PySem.W.Frag) (a : Addr) : It :=
  ⟨fun i H => ∃ xs x, SqT K H a xs ∧ xs[i]? = some x, fun i H x H' => H' = H ∧ ∀ xs, SqT K H a xs → xs[i]? = some x, fun i H => ∃ xs, SqT K H a xs ∧ xs.length ≤ i⟩
noncomputable def Itr (lo : Int) (n : Nat) : It := ⟨fun i _ => i < n, fun i H x H' => H' = H ∧ x = .int (lo + i), fun i _ => n ≤ i⟩
theorem turn_list {P : Program} {w : World} {K : PySem.W.Frag} {tg : Expr} (a it : Addr) : Turn P w K tg (Itl K a) [it] it (fun i h => h.IsListIter it a i) where
  mem := by simp
  obj := fun i h st b hb => by
    have e : b = it := by simpa using hb
    subst e
    obtain ⟨o, e, c, d⟩ := st
    exact ⟨o, e, fun v z => by rw [d] at z; cases z⟩
  keep := fun i h h' st k => st.at fun o e => k it (by simp) o e
  item := by
    intro X hP hw hK hc i pins s σ H E I hf st hg
    subst hP hw hK
    obtain ⟨xs, x, hq, hx⟩ := hg
    obtain ⟨its, rv, p, hz⟩ := I.list hq
    obtain ⟨u, hu, ru⟩ := rv.get hx
    obtain ⟨f0, f1, f2, f3, f4, f5⟩ := hf it (by simp)
    refine wpAny_pyNext_list_item st p.isList (x := u) (by simpa using hu) fun h' st' sb => ?_
    have I1 : Inv X pins σ H { s with heap := h' } := I.turned (t' := s.toks) (fun b o hb e => (sb.2 b hb).trans e) f0 f1 f3 f4 f5
    obtain ⟨o, e, c, d⟩ := id st'
    exact ⟨u, rfl, go_of (s := { s with heap := h' }) e c d (by decide) ⟨x, H, I1, ru, ⟨rfl, fun ys hy => by rw [I.list_inj hy hq]; exact hx⟩, st', fun b hb => (hf b hb).1⟩⟩
  done := by
    intro X hP hw hK hc i pins s σ H E I hf st hg
    subst hP hw hK
    obtain ⟨xs, hq, hx⟩ := hg
    obtain ⟨its, rv, p, hz⟩ := I.list hq
    obtain ⟨f0, f1, f2, f3, f4, f5⟩ := hf it (by simp)
    have hl := rv.length
    exact wpAny_pyNext_list_end (I.ok.hd hc) st p.isList (by simp; omega) fun h' eb => ⟨rfl, I.turned (t' := s.toks) (fun b o hb e => eb b o hb e) f0 f1 f3 f4 f5⟩
  self := fun _ _ _ _ _ st h => wpAny_pyIter_listiter st h
theorem turn_tuple {P : Program} {w : World} {K : PySem.W.Frag} {tg : Expr} (a it : Addr) : Turn P w K tg (Itt K a) [it] it (fun i h => h.IsTupleIter it a i) where
  mem := by simp
  obj := fun i h st b hb => by
    have e : b = it := by simpa using hb
    subst e
    obtain ⟨o, e, c, d⟩ := st
    exact ⟨o, e, fun v z => by rw [d] at z; cases z⟩
  keep := fun i h h' st k => st.at fun o e => k it (by simp) o e
  item := by
    intro X hP hw hK hc i pins s σ H E I hf st hg
    subst hP hw hK
    obtain ⟨xs, x, hq, hx⟩ := hg
    obtain ⟨its, rv, p, hz⟩ := I.tuple hq
    obtain ⟨u, hu, ru⟩ := rv.get hx
    obtain ⟨f0, f1, f2, f3, f4, f5⟩ := hf it (by simp)
    refine wpAny_pyNext_tuple_item st (show s.heap.IsTuple a its.toArray from p) (x := u) (by simpa using hu) fun h' st' sb => ?_
    have I1 : Inv X pins σ H { s with heap := h' } := I.turned (t' := s.toks) (fun b o hb e => (sb.2 b hb).trans e) f0 f1 f3 f4 f5
    obtain ⟨o, e, c, d⟩ := id st'
    exact ⟨u, rfl, go_of (s := { s with heap := h' }) e c d (by decide) ⟨x, H, I1, ru, ⟨rfl, fun ys hy => by rw [I.tuple_inj hy hq]; exact hx⟩, st', fun b hb => (hf b hb).1⟩⟩
  done := by
    intro X hP hw hK hc i pins s σ H E I hf st hg
    subst hP hw hK
    obtain ⟨xs, hq, hx⟩ := hg
    obtain ⟨its, rv, p, hz⟩ := I.tuple hq
    obtain ⟨f0, f1, f2, f3, f4, f5⟩ := hf it (by simp)
    have hl := rv.length
    exact wpAny_pyNext_tuple_end (I.ok.hd hc) st (show s.heap.IsTuple a its.toArray from p) (by simp; omega) fun h' eb => ⟨rfl, I.turned (t' := s.toks) (fun b o hb e => eb b o hb e) f0 f1 f3 f4 f5⟩
  self := fun _ _ _ _ _ st h => wpAny_pyIter_tupleiter st h
theorem turn_range {P : Program} {w : World} {K : PySem.W.Frag} {tg : Expr} (it : Addr) (lo : Int) (n : Nat) : Turn P w K tg (Itr lo n) [it] it (fun i h => IsRangeIter h it (lo + (i : Nat) * 1) ((n : Int) - (i : Nat)) 1) where
  mem := by simp
  obj := fun i h st b hb => by
    have e : b = it := by simpa using hb
    subst e
    exact ⟨_, st, fun v z => by
      have z' : Data.fields _ = Data.cell v := z
      cases z'⟩
  keep := fun i h h' st k => k it (by simp) _ st
  item := by
    intro X hP hw hK hc i pins s σ H E I hf st hg
    subst hP hw hK
    obtain ⟨f0, f1, f2, f3, f4, f5⟩ := hf it (by simp)
    have W := Walks.range (prog := X.prog) (w := X.w) (I.ok.hd hc) it lo 1 n
    refine W.item i s _ _ hg st fun v h' tk hv st' kk => ?_
    obtain ⟨t, rfl⟩ := hv
    have I1 : Inv X pins σ H { s with heap := h', toks := tk } := I.turned (fun b o hb e => kk b o (by simpa using hb) e) f0 f1 f3 f4 f5
    refine ⟨_, rfl, go_of (s := { s with heap := h', toks := tk }) (n := "range_iterator") st' rfl rfl (by decide) ⟨.int (lo + i), H, I1, ⟨t, ?_⟩, ⟨rfl, rfl⟩, st', fun b hb => (hf b hb).1⟩⟩
    rw [Int.mul_one]
  done := by
    intro X hP hw hK hc i pins s σ H E I hf st hg
    subst hP hw hK
    obtain ⟨f0, f1, f2, f3, f4, f5⟩ := hf it (by simp)
    exact wpAny_pyNext_range_end (I.ok.hd hc) st (by have : n ≤ i := hg; omega) fun h' eb => ⟨rfl, I.turned (t' := s.toks) (fun b o hb e => eb b o hb e) f0 f1 f3 f4 f5⟩
  self := fun _ _ _ _ _ st h => wpAny_pyIter_rangeiter st h
end L2
namespace L2
open PySem PySem.Spec PyProof.Rows
section
variable {X : Cx} {tg : Expr}
noncomputable def iList (K : PySem.W.Frag) (tl : TE) : TI := fun σ H R => tl σ H fun x H1 => ∃ a, x = .ref a ∧ (∃ xs, SqL K H1 a xs) ∧ R (Itl K a) H1
noncomputable def iTup (K : PySem.W.Frag) (tl : TE) : TI := fun σ H R => tl σ H fun x H1 => ∃ a, x = .ref a ∧ (∃ xs, SqT K H1 a xs) ∧ R (Itt K a) H1
theorem pi_list {l : Expr} {tl : TE} (hl : PE X l tl) : PI X tg l (iList X.K tl) := by
  intro pins s σ H R I h
  refine thn (hl pins s σ H _ I h) fun v s1 ⟨x, H1, I1, r1, q1⟩ => ?_
  obtain ⟨a, e, ⟨xs, hq⟩, q⟩ := q1
  subst e
  cases r1
  obtain ⟨its, rv, p, hz⟩ := I1.list hq
  refine wpAny_pyIter_list p.isList ?_
  refine ⟨s1.heap.objs.size, [s1.heap.objs.size], _, _, H1, rfl, I1.kept (t' := s1.toks) fun b o e => Heap.get?_push_of_some _ e, turn_list a _, ⟨_, Heap.get?_push_size _ rfl, rfl, rfl⟩, fun b hb => ?_, q⟩
  have e : b = s1.heap.objs.size := by simpa using hb
  subst e
  exact I1.fpOk (Nat.le_refl _) (I1.hok.fresh (Nat.le_refl _))
theorem pi_tup {l : Expr} {tl : TE} (hl : PE X l tl) : PI X tg l (iTup X.K tl) := by
  intro pins s σ H R I h
  refine thn (hl pins s σ H _ I h) fun v s1 ⟨x, H1, I1, r1, q1⟩ => ?_
  obtain ⟨a, e, ⟨xs, hq⟩, q⟩ := q1
  subst e
  cases r1
  obtain ⟨its, rv, p, hz⟩ := I1.tuple hq
  refine wpAny_pyIter_tuple (show s1.heap.IsTuple a its.toArray from p) ?_
  refine ⟨s1.heap.objs.size, [s1.heap.objs.size], _, _, H1, rfl, I1.kept (t' := s1.toks) fun b o e => Heap.get?_push_of_some _ e, turn_tuple a _, ⟨_, Heap.get?_push_size _ rfl, rfl, rfl⟩, fun b hb => ?_, q⟩
  have e : b = s1.heap.objs.size := by simpa using hb
  subst e
  exact I1.fpOk (Nat.le_refl _) (I1.hok.fresh (Nat.le_refl _))
theorem range_it {pins : List (Addr × Obj)} {σ : St} {H : Hp} {s : Shared} {R : It → Hp → Prop} {E : Value → Shared → Prop} {lo hi : Int} {t u v : Tok} {tk : Nat} (I : Inv X pins σ H s) (h1 : -(2 ^ 62) ≤ lo) (h2 : lo < 2 ^ 62) (h3 : -(2 ^ 62) ≤ hi) (h4 : hi < 2 ^ 62)
    (q : R (Itr lo (hi - lo).toNat) H) : wpAny (model X.prog X.w) X.A (pyIter (.ref s.heap.objs.size)) (PIE X pins σ tg R) E { s with heap := s.heap.push { cls := .type "range", data := .fields #[.int lo t, .int hi u, .int 1 v] }, toks := tk } := by
  refine wpAny_pyIter_range (IsRange.new ..) (small_one h1 h2 h3 h4) ?_
  have I1 : Inv X pins σ H { s with heap := s.heap.push { cls := .type "range", data := .fields #[.int lo t, .int hi u, .int 1 v] }, toks := tk } := I.kept fun b o e => Heap.get?_push_of_some _ e
  refine ⟨(s.heap.push { cls := .type "range", data := .fields #[.int lo t, .int hi u, .int 1 v] }).objs.size, [(s.heap.push { cls := .type "range", data := .fields #[.int lo t, .int hi u, .int 1 v] }).objs.size], _, _, H, rfl,
    I1.kept (t' := tk) fun b o e => Heap.get?_push_of_some _ e, turn_range _ lo (hi - lo).toNat, ?_, fun b hb => ?_, q⟩
  · have e1 : lo + ((0 : Nat) : Int) * 1 = lo := by simp
    have e2 : (((hi - lo).toNat : Nat) : Int) - ((0 : Nat) : Int) = Builtin.Range.rangeSize lo hi 1 := by rw [rangeSize_one]; split <;> omega
    show IsRangeIter _ _ (lo + ((0 : Nat) : Int) * 1) ((((hi - lo).toNat : Nat) : Int) - ((0 : Nat) : Int)) 1
    rw [e1, e2]
    exact Heap.get?_push_size _ rfl
  · have e : b = (s.heap.push { cls := .type "range", data := .fields #[.int lo t, .int hi u, .int 1 v] }).objs.size := by simpa using hb
    subst e
    exact I1.fpOk (Nat.le_refl _) (I1.hok.fresh (Nat.le_refl _))
noncomputable def iRng1 (ta : TA) : TI := fun σ H R => ta σ H fun vs H1 => ∃ j : Int, vs = [.int j] ∧ -(2 ^ 62) ≤ j ∧ j < 2 ^ 62 ∧ R (Itr 0 j.toNat) H1
noncomputable def iRng2 (ta : TA) : TI := fun σ H R => ta σ H fun vs H1 => ∃ i j : Int, vs = [.int i, .int j] ∧ (-(2 ^ 62) ≤ i ∧ i < 2 ^ 62 ∧ -(2 ^ 62) ≤ j ∧ j < 2 ^ 62) ∧ R (Itr i (j - i).toNat) H1
theorem pi_range1 {a : Expr} {ta : TA} {p pos : Pos} (hg : Gl X "range") (hm : X.mg "range" = none) (ha : PA X [a] ta) (hs : starEach [a] X.env = [(false, eval a X.env)] := by rfl) : PI X tg (.Call (.Name "range" p) [a] [] pos) (iRng1 ta) := by
  intro pins s σ H R I h
  refine Call_ (ld_blt I hg hm boot_range (PyProof.Rows.callWith_type1 (thn (ha pos pins s σ H _ I h) fun us s1 ⟨vs, H1, I1, r1, q1⟩ => ?_) hs rfl))
  obtain ⟨j, e, q1, q2, q⟩ := q1
  subst e
  cases r1 with
  | cons r rr =>
    cases rr
    obtain ⟨t, rfl⟩ := r
    exact call_range_1 (range_it I1 (by omega) (by omega) q1 q2 (by simpa using q))
theorem pi_range2 {a b : Expr} {ta : TA} {p pos : Pos} (hg : Gl X "range") (hm : X.mg "range" = none) (ha : PA X [a, b] ta) (hs : starEach [a, b] X.env = [(false, eval a X.env), (false, eval b X.env)] := by rfl) (hs2 : starEach [b] X.env = [(false, eval b X.env)] := by rfl) :
    PI X tg (.Call (.Name "range" p) [a, b] [] pos) (iRng2 ta) := by
  intro pins s σ H R I h
  refine Call_ (ld_blt I hg hm boot_range (PyProof.Rows.callWith_type1 (thn (ha pos pins s σ H _ I h) fun us s1 ⟨vs, H1, I1, r1, q1⟩ => ?_) (by rw [hs, hs2]) (by rw [hs2]; rfl)))
  obtain ⟨i, j, e, ⟨q1, q2, q3, q4⟩, q⟩ := q1
  subst e
  cases r1 with
  | cons r rr =>
    cases rr with
    | cons r' rr =>
      cases rr
      obtain ⟨t, rfl⟩ := r
      obtain ⟨t', rfl⟩ := r'
      exact call_range_2 (range_it I1 q1 q2 q3 q4 q)
noncomputable def tFor (wi : TI) (g : TG) (tb : TS) : TS := fun D σ H => wi σ H fun J H1 => ∃ W : Nat → Nat → St → Hp → Prop, (∃ m, W 0 m σ H1) ∧ ∀ i m σ H, W i m σ H →
  (J.stop i H ∧ D.nx σ H) ∨ (J.go i H ∧ ∃ N : St → Hp → Prop, (∀ σ' H', N σ' H' → ∃ m', m' < m ∧ W (i + 1) m' σ' H') ∧ ∀ x H', J.yld i H x H' → g x σ H' fun σ2 H2 => tb { D with nx := N, ct := N, bk := D.nx } σ2 H2)
noncomputable def pinsAt (fp : List Addr) (h : Heap) : List (Addr × Obj) := fp.filterMap fun b => (h.get? b).map fun o => (b, o)
theorem mem_pinsAt {fp : List Addr} {h : Heap} {b : Addr} {o : Obj} (hb : b ∈ fp) (e : h.get? b = some o) : (b, o) ∈ pinsAt fp h := List.mem_filterMap.mpr ⟨b, hb, by rw [e]; rfl⟩
theorem of_pinsAt {fp : List Addr} {h : Heap} {p : Addr × Obj} (hp : p ∈ pinsAt fp h) : p.1 ∈ fp ∧ h.get? p.1 = some p.2 := by
  obtain ⟨b, hb, e⟩ := List.mem_filterMap.mp hp
  cases q : h.get? b with
  | none => rw [q] at e; cases e
  | some o =>
    rw [q] at e
    have e' : (b, o) = p := Option.some.inj e
    subst e'
    exact ⟨hb, q⟩
theorem Inv.pinned {pins : List (Addr × Obj)} {σ : St} {H : Hp} {s : Shared} {fp : List Addr} (I : Inv X pins σ H s) (hf : ∀ b ∈ fp, FpOk X pins H b) (ho : ∀ b ∈ fp, ∃ o, s.heap.get? b = some o ∧ ∀ v, o.data ≠ .cell v) : Inv X (pins ++ pinsAt fp s.heap) σ H s :=
  I.pins_of fun p hp => (List.mem_append.mp hp).elim (fun z => I.pin p (List.mem_append_right _ z)) fun z => by
    obtain ⟨hb, e⟩ := of_pinsAt z
    obtain ⟨f0, f1, f2, _⟩ := hf p.1 hb
    obtain ⟨o, e', d⟩ := ho p.1 hb
    rw [e] at e'; cases e'
    exact ⟨e, f0, f1, f2, d⟩
theorem Inv.unpinned {pins pl : List (Addr × Obj)} {σ : St} {H : Hp} {s : Shared} (I : Inv X (pins ++ pl) σ H s) : Inv X pins σ H s := I.pins_of fun p hp => I.pin p (List.mem_append_right _ (List.mem_append_left _ hp))
theorem ps_for {iter : Expr} {body : List Stmt} {wi : TI} {g : TG} {tb : TS} {pos : Pos} (hp : PassesOwn (model X.prog X.w) X.A X.env X.xe) (hc : X.calm = true) (hi : PI X tg iter wi) (hg : PG X tg g) (hb : PSs X body tb)
    (hs : ∀ x, foldedSetIterable iter X.env x = pure x := by intro _; rfl) : PS X (.For tg iter body [] pos) (tFor wi g tb) := by
  intro pins s σ H D I h
  refine wpAny_For (thn (hi pins s σ H _ I h) fun v s1 h1 => thn h1 fun itv s2 h2 => ?_) hs
  obtain ⟨it, fp, tn, J, H2, e, I2, T, st2, f2, W, ⟨m0, w0⟩, turn⟩ := h2
  subst e
  -- what stays true of the iterator's objects through the loop
  have stat : ∀ {H' : Hp}, (∀ b ∈ fp, H' b = none) → ∀ b ∈ fp, FpOk X pins H' b := fun hn b hb => ⟨hn b hb, (f2 b hb).2⟩
  refine codeAny_forLoop_any (fun n s' => ∃ i σ' H', Inv X pins σ' H' s' ∧ tn i s'.heap ∧ (∀ b ∈ fp, H' b = none) ∧ W i n σ' H') ?_ m0 ⟨0, σ, H2, I2, st2, fun b hb => (f2 b hb).1, w0⟩
  rintro n s3 ⟨i, σ3, H3, I3, st3, fr3, w3⟩
  rcases turn i n σ3 H3 w3 with ⟨stop, qn⟩ | ⟨go, N, hN, step⟩
  · refine wpAny_passesOwn hp (thn (T.done X rfl rfl rfl hc i pins s3 σ3 H3 X.xe I3 (stat fr3) st3 stop) fun r s4 ⟨hr, I4⟩ => ?_)
    subst hr
    exact wpAny_execs_nil ⟨σ3, H3, I4, qn⟩
  · refine wpAny_passesOwn hp (thn (T.item X rfl rfl rfl hc i pins s3 σ3 H3 X.xe I3 (stat fr3) st3 go) fun r s4 ⟨u, hr, h4⟩ => ?_)
    subst hr
    refine wpAny_passesOwn hp (thn h4 fun _ s5 ⟨x, H5, I5, r5, y5, st5, fr5⟩ => ?_)
    have I5' := I5.pinned (stat fr5) (T.obj _ _ st5)
    refine wpAny_passesOwn hp (thn (hg _ s5 σ3 H5 x u _ I5' r5 (step x H5 y5)) fun _ s6 ⟨σ6, H6, I6, q6⟩ => ?_)
    refine wpAny_passesOwn hp (thn (hb _ s6 σ6 H6 _ I6 q6) fun f s7 q7 => ?_)
    have again : ∀ {σ7 : St} {H7 : Hp}, Inv X (pins ++ pinsAt fp s5.heap) σ7 H7 s7 → N σ7 H7 → ∃ m, m < n ∧ ∃ i σ' H', Inv X pins σ' H' s7 ∧ tn i s7.heap ∧ (∀ b ∈ fp, H' b = none) ∧ W i m σ' H' := fun {σ7 H7} I7 n7 => by
      obtain ⟨m', hm, w7⟩ := hN σ7 H7 n7
      refine ⟨m', hm, i + 1, σ7, H7, I7.unpinned, T.keep _ _ _ st5 fun b hb o e => (I7.pin (b, o) (List.mem_append_right _ (List.mem_append_right _ (mem_pinsAt hb e)))).1, fun b hb => ?_, w7⟩
      obtain ⟨o, e, d⟩ := T.obj _ _ st5 b hb
      exact (I7.pin (b, o) (List.mem_append_right _ (List.mem_append_right _ (mem_pinsAt hb e)))).2.1
    cases f with
    | next => obtain ⟨σ7, H7, I7, n7⟩ := q7; exact again I7 n7
    | cont => obtain ⟨σ7, H7, I7, n7⟩ := q7; exact again I7 n7
    | brk => obtain ⟨σ7, H7, I7, q7⟩ := q7; exact ⟨σ7, H7, I7.unpinned, q7⟩
    | ret v => obtain ⟨x7, σ7, H7, I7, r7, q7⟩ := q7; exact ⟨x7, σ7, H7, I7.unpinned, r7, q7⟩
end
end L2
namespace L2
open PySem PySem.Spec PyProof.Rows
noncomputable abbrev R2 := V → V → Hp → VK → Prop
noncomputable def OpR (X : Cx) (f : Value → Value → Sem Value) (r : R2) : Prop :=
  ∀ (pins : List (Addr × Obj)) (s : Shared) (σ : St) (H : Hp) (x y : V) (v u : Value) (Q : VK), Inv X pins σ H s → RelV x v → RelV y u → r x y H Q →
    wpAny (model X.prog X.w) X.A (f v u) (EP X pins σ Q) X.xe s
noncomputable def UnR (X : Cx) (f : Value → Sem Value) (r : V → Hp → VK → Prop) : Prop :=
  ∀ (pins : List (Addr × Obj)) (s : Shared) (σ : St) (H : Hp) (x : V) (v : Value) (Q : VK), Inv X pins σ H s → RelV x v → r x H Q →
    wpAny (model X.prog X.w) X.A (f v) (EP X pins σ Q) X.xe s
noncomputable def CallR (X : Cx) (f : Value) (r : List V → Hp → VK → Prop) : Prop :=
  ∀ (pins : List (Addr × Obj)) (s : Shared) (σ : St) (H : Hp) (xs : List V) (us : List Value) (Q : VK), Inv X pins σ H s → Vals xs us → r xs H Q →
    wpAny (model X.prog X.w) X.A (call f us) (EP X pins σ Q) X.xe s
noncomputable def TruR (X : Cx) (r : V → Hp → (Bool → Hp → Prop) → Prop) : Prop :=
  ∀ (pins : List (Addr × Obj)) (s : Shared) (σ : St) (H : Hp) (x : V) (v : Value) (Q : Bool → Hp → Prop), Inv X pins σ H s → RelV x v → r x H Q →
    wpAny (model X.prog X.w) X.A (truthy v) (TP X pins σ Q) X.xe s
noncomputable def tOp (r : R2) (ta tb : TE) : TE := fun σ H Q => ta σ H fun x H1 => tb σ H1 fun y H2 => r x y H2 Q
noncomputable def tUn (r : V → Hp → VK → Prop) (ta : TE) : TE := fun σ H Q => ta σ H fun x H1 => r x H1 Q
noncomputable def rI (C : Int → Int → Prop) (g : Int → Int → V) : R2 := fun x y H Q => ∃ i j, x = .int i ∧ y = .int j ∧ C i j ∧ Q (g i j) H
noncomputable def rI0 (g : Int → Int → V) : R2 := fun x y H Q => ∃ i j, x = .int i ∧ y = .int j ∧ Q (g i j) H
noncomputable def rU (g : Int → V) : V → Hp → VK → Prop := fun x H Q => ∃ i, x = .int i ∧ Q (g i) H
section
variable {X : Cx} {a b c : Expr} {ta tb tc : TE} {pos : Pos}
theorem binT (ha : PE X a ta) (hb : PE X b tb) {pins : List (Addr × Obj)} {s : Shared} {σ : St} {H : Hp} {R : V → V → Hp → Prop} (I : Inv X pins σ H s)
    (h : ta σ H fun x H1 => tb σ H1 fun y H2 => R x y H2) {Q : Value → Shared → Prop} {f : Value → Value → Sem Value}
    (hf : ∀ v u s2 x y H2, Inv X pins σ H2 s2 → RelV x v → RelV y u → R x y H2 → wpAny (model X.prog X.w) X.A (f v u) Q X.xe s2) :
    wpAny (model X.prog X.w) X.A (eval a X.env) (fun v s₁ => wpAny (model X.prog X.w) X.A (eval b X.env) (fun u s₂ => wpAny (model X.prog X.w) X.A (f v u) Q X.xe s₂) X.xe s₁) X.xe s := by
  refine thn (ha pins s σ H _ I h) fun v s1 ⟨x, H1, I1, r1, q1⟩ => ?_
  refine thn (hb pins s1 σ H1 _ I1 q1) fun u s2 ⟨y, H2, I2, r2, q2⟩ => ?_
  exact hf v u s2 x y H2 I2 r1 r2 q2
theorem pe_op {op : Operator} {r : R2} (ho : OpR X (binaryOp op) r) (ha : PE X a ta) (hb : PE X b tb) : PE X (.BinOp a op b pos) (tOp r ta tb) := by
  intro pins s σ H Q I h
  exact wpAny_BinOp (binT ha hb I h fun v u s2 x y H2 I2 rx ry q => ho pins s2 σ H2 x y v u Q I2 rx ry q)
theorem pe_un {op : UnaryOp} {r : V → Hp → VK → Prop} (ho : UnR X (unaryOp op) r) (ha : PE X a ta) : PE X (.UnaryOp op a pos) (tUn r ta) := by
  intro pins s σ H Q I h
  exact UnaryOp_ (thn (ha pins s σ H _ I h) fun v s1 ⟨x, H1, I1, r1, q1⟩ => ho pins s1 σ H1 x v Q I1 r1 q1)
theorem opI {f : Value → Value → Sem Value} {C : Int → Int → Prop} {g : Int → Int → Int}
    (rule : ∀ (i j : Int) (t u : Tok) (s : Shared) (Q : Value → Shared → Prop) (E : Value → Shared → Prop), C i j → Q (.int (g i j) s.toks) { s with toks := s.toks + 1 } → wpAny (model X.prog X.w) X.A (f (.int i t) (.int j u)) Q E s) :
    OpR X f (rI C fun i j => .int (g i j)) := by
  intro pins s σ H x y v u Q I rx ry h
  obtain ⟨i, j, rfl, rfl, hc, q⟩ := h
  obtain ⟨t, rfl⟩ := rx
  obtain ⟨t', rfl⟩ := ry
  exact rule i j t t' s _ _ hc ⟨.int (g i j), H, I.tok _, ⟨_, rfl⟩, q⟩
theorem opI0 {f : Value → Value → Sem Value} {g : Int → Int → Int}
    (rule : ∀ (i j : Int) (t u : Tok) (s : Shared) (Q : Value → Shared → Prop) (E : Value → Shared → Prop), Q (.int (g i j) s.toks) { s with toks := s.toks + 1 } → wpAny (model X.prog X.w) X.A (f (.int i t) (.int j u)) Q E s) :
    OpR X f (rI0 fun i j => .int (g i j)) := by
  intro pins s σ H x y v u Q I rx ry h
  obtain ⟨i, j, rfl, rfl, q⟩ := h
  obtain ⟨t, rfl⟩ := rx
  obtain ⟨t', rfl⟩ := ry
  exact rule i j t t' s _ _ ⟨.int (g i j), H, I.tok _, ⟨_, rfl⟩, q⟩
theorem opB0 {f : Value → Value → Sem Value} {g : Int → Int → Bool}
    (rule : ∀ (i j : Int) (t u : Tok) (s : Shared) (Q : Value → Shared → Prop) (E : Value → Shared → Prop), Q (.bool (g i j)) s → wpAny (model X.prog X.w) X.A (f (.int i t) (.int j u)) Q E s) :
    OpR X f (rI0 fun i j => .bl (g i j)) := by
  intro pins s σ H x y v u Q I rx ry h
  obtain ⟨i, j, rfl, rfl, q⟩ := h
  obtain ⟨t, rfl⟩ := rx
  obtain ⟨t', rfl⟩ := ry
  exact rule i j t t' s _ _ ⟨.bl (g i j), H, I, rfl, q⟩
noncomputable def CPow (i j : Int) : Prop := 0 ≤ j ∧ j ≤ 1000000 ∧ i.natAbs < 2 ^ 64
noncomputable def CMul (i j : Int) : Prop := (-(2 ^ 64) < i ∧ i < 2 ^ 64) ∨ (-(2 ^ 64) < j ∧ j < 2 ^ 64)
theorem CMul.ok {i j : Int} (h : CMul i j) : IntMulOk i j := by
  rcases h with ⟨h1, h2⟩ | ⟨h1, h2⟩
  · exact .of_left (intBits_le_64 h1 h2)
  · exact .of_right (intBits_le_64 h1 h2)
theorem op_add : OpR X (binaryOp .Add) (rI0 fun i j => .int (i + j)) := opI0 fun _ _ _ _ _ _ _ q => add_int q
theorem op_sub : OpR X (binaryOp .Sub) (rI0 fun i j => .int (i - j)) := opI0 fun _ _ _ _ _ _ _ q => sub_int q
theorem op_mod : OpR X (binaryOp .Mod) (rI (fun _ j => 0 < j) fun i j => .int (i % j)) := opI fun i j _ _ _ _ _ hc q => by
  have h1 : (0 : Int) < j := hc
  exact mod_int' (by omega) (by rw [Int.fmod_eq_emod_of_nonneg i (by omega)]; exact q)
theorem op_pow : OpR X (binaryOp .Pow) (rI CPow fun i j => .int (i ^ j.toNat)) := opI fun _ _ _ _ _ _ _ hc q => pow_int_small hc.1 hc.2.1 hc.2.2 q
theorem unI {f : Value → Sem Value} {g : Int → Int}
    (rule : ∀ (i : Int) (t : Tok) (s : Shared) (Q : Value → Shared → Prop) (E : Value → Shared → Prop), Q (.int (g i) s.toks) { s with toks := s.toks + 1 } → wpAny (model X.prog X.w) X.A (f (.int i t)) Q E s) :
    UnR X f (rU fun i => .int (g i)) := by
  intro pins s σ H x v Q I rx h
  obtain ⟨i, rfl, q⟩ := h
  obtain ⟨t, rfl⟩ := rx
  exact rule i t s _ _ ⟨.int (g i), H, I.tok _, ⟨_, rfl⟩, q⟩
theorem un_neg : UnR X (unaryOp .USub) (rU fun i => .int (-i)) := unI fun _ _ _ _ _ q => neg_int q
end
noncomputable def scal : V → V → Bool
  | .non, .non => true | .non, .int _ => true | .int _, .non => true | .non, .bl _ => true | .bl _, .non => true | .non, .str _ => true | .str _, .non => true
  | .int _, .int _ => true | .bl _, .bl _ => true | .str _, .str _ => true | .byt _, .byt _ => true
  | .int _, .str _ => true | .str _, .int _ => true | .bl _, .str _ => true | .str _, .bl _ => true
  | _, _ => false
noncomputable def rEq : R2 := fun x y H Q => scal x y = true ∧ Q (.bl (decide (x = y))) H
noncomputable def rNe : R2 := fun x y H Q => scal x y = true ∧ Q (.bl (!decide (x = y))) H
theorem dec_int {i j : Int} : decide (V.int i = V.int j) = (i == j) := by
  rw [Bool.eq_iff_iff]
  simp
theorem dec_bl {i j : Bool} : decide (V.bl i = V.bl j) = (i == j) := by
  rw [Bool.eq_iff_iff]
  simp
theorem dec_str {i j : Str} : decide (V.str i = V.str j) = (i == j) := by
  rw [Bool.eq_iff_iff]
  simp
theorem dec_byt {i j : Array UInt8} : decide (V.byt i = V.byt j) = (i.toList == j.toList) := by
  rw [Bool.eq_iff_iff]
  cases i
  cases j
  simp
section
variable {X : Cx} {a b c : Expr} {ta tb tc : TE} {pos : Pos}
theorem fin_bl {pins : List (Addr × Obj)} {σ : St} {H : Hp} {s : Shared} {Q : VK} {k k' : Bool} (I : Inv X pins σ H s) (q : Q (.bl k) H) (e : k = k') : EP X pins σ Q (.bool k') s := by
  subst e
  exact ⟨.bl k, H, I, rfl, q⟩
theorem op_eq : OpR X (compareOp .Eq) rEq := by
  intro pins s σ H x y v u Q I rx ry h
  obtain ⟨hs, q⟩ := h
  cases x with
  | non =>
    cases rx
    cases y with
    | non => cases ry; exact PySem.EqNone.eq_none_none (fin_bl I q (by simp))
    | bl j => cases ry; exact PySem.EqNone.eq_none_bool (fin_bl I q (by simp))
    | int j => obtain ⟨t', rfl⟩ := ry; exact PySem.EqNone.eq_none_int (fin_bl I q (by simp))
    | str j => obtain ⟨t', rfl⟩ := ry; exact PySem.EqNone.eq_none_str (fin_bl I q (by simp))
    | _ => exact absurd (show false = true from hs) Bool.false_ne_true
  | bl i =>
    cases rx
    cases y with
    | non => cases ry; exact PySem.EqNone.eq_bool_none (fin_bl I q (by simp))
    | bl j => cases ry; exact eq_bool (fin_bl I q dec_bl)
    | str j => obtain ⟨t', rfl⟩ := ry; exact PySem.EqMixed.eq_bool_str (fin_bl I q (by simp))
    | _ => exact absurd (show false = true from hs) Bool.false_ne_true
  | int i =>
    obtain ⟨t, rfl⟩ := rx
    cases y with
    | non => cases ry; exact PySem.EqNone.eq_int_none (fin_bl I q (by simp))
    | int j => obtain ⟨t', rfl⟩ := ry; exact eq_int (fin_bl I q dec_int)
    | str j => obtain ⟨t', rfl⟩ := ry; exact PySem.EqMixed.eq_int_str (fin_bl I q (by simp))
    | _ => exact absurd (show false = true from hs) Bool.false_ne_true
  | str i =>
    obtain ⟨t, rfl⟩ := rx
    cases y with
    | non => cases ry; exact PySem.EqNone.eq_str_none (fin_bl I q (by simp))
    | bl j => cases ry; exact PySem.EqMixed.eq_str_bool (fin_bl I q (by simp))
    | int j => obtain ⟨t', rfl⟩ := ry; exact PySem.EqMixed.eq_str_int (fin_bl I q (by simp))
    | str j => obtain ⟨t', rfl⟩ := ry; exact eq_str (fin_bl I q dec_str)
    | _ => exact absurd (show false = true from hs) Bool.false_ne_true
  | byt i =>
    obtain ⟨t, rfl⟩ := rx
    cases y with
    | byt j => obtain ⟨t', rfl⟩ := ry; exact PySem.W.eq_bytes (fin_bl I q dec_byt)
    | _ => exact absurd (show false = true from hs) Bool.false_ne_true
  | _ => cases y <;> exact absurd (show false = true from hs) Bool.false_ne_true
theorem op_ne : OpR X (compareOp .NotEq) rNe := by
  intro pins s σ H x y v u Q I rx ry h
  obtain ⟨hs, q⟩ := h
  cases x with
  | non =>
    cases rx
    cases y with
    | non => cases ry; exact PySem.EqNone.ne_none_none (fin_bl I q (by simp))
    | bl j => cases ry; exact PySem.EqNone.ne_none_bool (fin_bl I q (by simp))
    | int j => obtain ⟨t', rfl⟩ := ry; exact PySem.EqNone.ne_none_int (fin_bl I q (by simp))
    | str j => obtain ⟨t', rfl⟩ := ry; exact PySem.EqNone.ne_none_str (fin_bl I q (by simp))
    | _ => exact absurd (show false = true from hs) Bool.false_ne_true
  | bl i =>
    cases rx
    cases y with
    | non => cases ry; exact PySem.EqNone.ne_bool_none (fin_bl I q (by simp))
    | bl j => cases ry; exact ne_bool (fin_bl I q (congrArg not dec_bl))
    | str j => obtain ⟨t', rfl⟩ := ry; exact PySem.EqMixed.ne_bool_str (fin_bl I q (by simp))
    | _ => exact absurd (show false = true from hs) Bool.false_ne_true
  | int i =>
    obtain ⟨t, rfl⟩ := rx
    cases y with
    | non => cases ry; exact PySem.EqNone.ne_int_none (fin_bl I q (by simp))
    | int j => obtain ⟨t', rfl⟩ := ry; exact ne_int (fin_bl I q (congrArg not dec_int))
    | str j => obtain ⟨t', rfl⟩ := ry; exact PySem.EqMixed.ne_int_str (fin_bl I q (by simp))
    | _ => exact absurd (show false = true from hs) Bool.false_ne_true
  | str i =>
    obtain ⟨t, rfl⟩ := rx
    cases y with
    | non => cases ry; exact PySem.EqNone.ne_str_none (fin_bl I q (by simp))
    | bl j => cases ry; exact PySem.EqMixed.ne_str_bool (fin_bl I q (by simp))
    | int j => obtain ⟨t', rfl⟩ := ry; exact PySem.EqMixed.ne_str_int (fin_bl I q (by simp))
    | str j => obtain ⟨t', rfl⟩ := ry; exact ne_str (fin_bl I q (congrArg not dec_str))
    | _ => exact absurd (show false = true from hs) Bool.false_ne_true
  | byt i =>
    obtain ⟨t, rfl⟩ := rx
    cases y with
    | byt j => obtain ⟨t', rfl⟩ := ry; exact PySem.W.ne_bytes (fin_bl I q (congrArg not dec_byt))
    | _ => exact absurd (show false = true from hs) Bool.false_ne_true
  | _ => cases y <;> exact absurd (show false = true from hs) Bool.false_ne_true
theorem op_lt : OpR X (compareOp .Lt) (rI0 fun i j => .bl (decide (i < j))) := opB0 fun _ _ _ _ _ _ _ q => lt_int q
theorem op_le : OpR X (compareOp .LtE) (rI0 fun i j => .bl (decide (i ≤ j))) := opB0 fun _ _ _ _ _ _ _ q => le_int q
theorem op_gt : OpR X (compareOp .Gt) (rI0 fun i j => .bl (decide (j < i))) := opB0 fun _ _ _ _ _ _ _ q => gt_int q
theorem op_ge : OpR X (compareOp .GtE) (rI0 fun i j => .bl (decide (j ≤ i))) := opB0 fun _ _ _ _ _ _ _ q => ge_int q
theorem op_lt_str : OpR X (compareOp .Lt) (fun x y H Q => ∃ i j, x = .str i ∧ y = .str j ∧ Q (.bl (decide (i.cps.toList < j.cps.toList))) H) := by
  intro pins s σ H x y v u Q I rx ry h
  obtain ⟨i, j, rfl, rfl, q⟩ := h
  obtain ⟨t, rfl⟩ := rx
  obtain ⟨t', rfl⟩ := ry
  exact lt_str (fin_bl I q rfl)
theorem op_in_str : OpR X (compareOp .In) (fun x y H Q => ∃ i j, x = .str i ∧ y = .str j ∧ Q (.bl (!(Builtin.Str.occurrences j i 0 j.length 1).isEmpty)) H) := by
  intro pins s σ H x y v u Q I rx ry h
  obtain ⟨i, j, rfl, rfl, q⟩ := h
  obtain ⟨t, rfl⟩ := rx
  obtain ⟨t', rfl⟩ := ry
  exact in_str (fin_bl I q rfl)
theorem OpR.or {f : Value → Value → Sem Value} {r r' : R2} (h : OpR X f r) (h' : OpR X f r') : OpR X f (fun x y H Q => r x y H Q ∨ r' x y H Q) := by
  intro pins s σ H x y v u Q I rx ry q
  rcases q with q | q
  · exact h pins s σ H x y v u Q I rx ry q
  · exact h' pins s σ H x y v u Q I rx ry q
theorem nomark (b : Expr) {op : CmpOp} (h : op ≠ .In := by decide) (h2 : op ≠ .NotIn := by decide) : behindInMarks op b = false := by
  have e1 : (op == CmpOp.In) = false := by cases op <;> first | rfl | exact absurd rfl h
  have e2 : (op == CmpOp.NotIn) = false := by cases op <;> first | rfl | exact absurd rfl h2
  cases b <;> simp [behindInMarks, e1, e2]
theorem pe_cmpR {op : CmpOp} {r : R2} (ho : OpR X (compareOp op) r) (ha : PE X a ta) (hb : PE X b tb) (hm : behindInMarks op b = false) : PE X (.Compare a [op] [b] pos) (tOp r ta tb) := by
  intro pins s σ H Q I h
  exact wpAny_Compare1 (binT ha hb I h fun v u s2 x y H2 I2 rx ry q => ho pins s2 σ H2 x y v u Q I2 rx ry q) hm
noncomputable def tTest (t : TE) : TT := fun σ H Q => t σ H fun x H' => ∃ k, x = .bl k ∧ Q k H'
theorem pt_cmpR {op : CmpOp} {r : R2} (ho : OpR X (compareOp op) r) (ha : PE X a ta) (hb : PE X b tb) (hm : behindInMarks op b = false) : PT X (.Compare a [op] [b] pos) (tTest (tOp r ta tb)) := by
  intro pins s σ H Q I h
  refine wpAny_isTrue_Compare1 (thn (ha pins s σ H _ I h) fun v s1 ⟨x, H1, I1, r1, q1⟩ => thn (hb pins s1 σ H1 _ I1 q1) fun u s2 ⟨y, H2, I2, r2, q2⟩ =>
    thn (ho pins s2 σ H2 x y v u _ I2 r1 r2 q2) fun c s3 ⟨z, H3, I3, r3, k, e, q3⟩ => ?_) hm
  subst e
  cases r3
  exact wpAny_truthy_bool ⟨H3, I3, q3⟩
noncomputable def tChain (r r' : R2) (ta tb tc : TE) : TE := fun σ H Q => ta σ H fun x H1 => tb σ H1 fun y H2 => r x y H2 fun z H3 => ∃ k, z = .bl k ∧
  (if k = true then tc σ H3 fun w' H4 => r' y w' H4 Q else Q (.bl false) H3)
theorem pe_chain {op op' : CmpOp} {r r' : R2} (ho : OpR X (compareOp op) r) (ho' : OpR X (compareOp op') r') (ha : PE X a ta) (hb : PE X b tb) (hc : PE X c tc)
    (hm : lastMarks [op, op'] [b, c] = false := by with_unfolding_all rfl) : PE X (.Compare a [op, op'] [b, c] pos) (tChain r r' ta tb tc) := by
  intro pins s σ H Q I h
  refine Compare_chain (thn (ha pins s σ H _ I h) fun v s1 ⟨x, H1, I1, r1, q1⟩ => chain_link (thn (hb pins s1 σ H1 _ I1 q1) fun u s2 ⟨y, H2, I2, r2, q2⟩ =>
    thn (ho pins s2 σ H2 x y v u _ I2 r1 r2 q2) fun d s3 ⟨z, H3, I3, r3, k, e, q3⟩ => ?_)) hm
  subst e
  cases r3
  refine wpAny_truthy_bool ?_
  cases k with
  | false => exact ite_ff ⟨.bl false, H3, I3, rfl, q3⟩
  | true => exact ite_tt (chain_last (thn (hc pins s3 σ H3 _ I3 q3) fun w' s4 ⟨z', H4, I4, r4, q4⟩ => ho' pins s4 σ H4 y z' u w' Q I4 r2 r4 q4))
theorem pt_chain {op op' : CmpOp} {r r' : R2} (ho : OpR X (compareOp op) r) (ho' : OpR X (compareOp op') r') (ha : PE X a ta) (hb : PE X b tb) (hc : PE X c tc)
    (hm : lastMarks [op, op'] [b, c] = false := by with_unfolding_all rfl) : PT X (.Compare a [op, op'] [b, c] pos) (tTest (tChain r r' ta tb tc)) := by
  intro pins s σ H Q I h
  refine isTrue_chain (thn (ha pins s σ H _ I h) fun v s1 ⟨x, H1, I1, r1, q1⟩ => test_link (thn (hb pins s1 σ H1 _ I1 q1) fun u s2 ⟨y, H2, I2, r2, q2⟩ =>
    thn (ho pins s2 σ H2 x y v u _ I2 r1 r2 q2) fun d s3 ⟨z, H3, I3, r3, k, e, q3⟩ => ?_)) hm
  subst e
  cases r3
  refine wpAny_truthy_bool ?_
  cases k with
  | false =>
    obtain ⟨k', e', q'⟩ := q3
    cases e'
    exact ite_ff ⟨H3, I3, q'⟩
  | true =>
    refine ite_tt (test_last (thn (hc pins s3 σ H3 _ I3 q3) fun w' s4 ⟨z', H4, I4, r4, q4⟩ => thn (ho' pins s4 σ H4 y z' u w' _ I4 r2 r4 q4) fun d' s5 ⟨z2, H5, I5, r5, k2, e2, q5⟩ => ?_))
    subst e2
    cases r5
    exact wpAny_truthy_bool ⟨H5, I5, q5⟩
noncomputable def TruV (K : PySem.W.Frag) (x : V) (H : Hp) (k : Bool) : Prop :=
  match x with
  | .non => k = false
  | .bl b => k = b
  | .int i => k = (i != 0)
  | .str y => y.length ≤ sizeLine ∧ k = ((y.length : Int) != 0)
  | .byt y => y.size ≤ sizeLine ∧ k = ((y.size : Int) != 0)
  | .ref p => (∃ xs, SqL K H p xs ∧ k = !xs.isEmpty) ∨ (∃ xs, SqT K H p xs ∧ k = !xs.isEmpty) ∨ ∃ kvs, H p = some (.dK kvs) ∧ k = !kvs.isEmpty
  | _ => False
theorem isEmpty_kv {κ : Type} {kvs : List (κ × V)} {vs : List (κ × Value)} (r : KV kvs vs) : (!vs.isEmpty) = !kvs.isEmpty := by
  cases r <;> rfl
theorem isEmpty_of {xs : List V} {its : List Value} (r : Vals xs its) : (!its.toArray.isEmpty) = !xs.isEmpty := by
  cases r <;> simp
theorem line63 : (sizeLine : Nat) < 2 ^ 63 := by rw [sizeLine_eq]; decide
theorem tru_ok : TruR X (fun x H Q => ∃ k, TruV X.K x H k ∧ Q k H) := by
  intro pins s σ H x v Q I rx h
  obtain ⟨k, e, q⟩ := h
  have hl := line63
  have hs : sizeLine = 16777216 := sizeLine_eq
  cases x with
  | non =>
    cases rx
    have e' : k = false := e
    subst e'
    exact truthy_none ⟨H, I, q⟩
  | bl b =>
    cases rx
    have e' : k = b := e
    subst e'
    exact wpAny_truthy_bool ⟨H, I, q⟩
  | int i =>
    obtain ⟨t, rfl⟩ := rx
    have e' : k = (i != 0) := e
    subst e'
    exact PySem.P.truthy_int ⟨H, I, q⟩
  | str y =>
    obtain ⟨t, rfl⟩ := rx
    obtain ⟨hy, e'⟩ : y.length ≤ sizeLine ∧ k = ((y.length : Int) != 0) := e
    subst e'
    exact PySem.P.truthy_str (by omega) ⟨H, I.tok _, q⟩
  | byt y =>
    obtain ⟨t, rfl⟩ := rx
    obtain ⟨hy, e'⟩ : y.size ≤ sizeLine ∧ k = ((y.size : Int) != 0) := e
    subst e'
    exact PySem.W.truthy_bytes (by omega) ⟨H, I.tok _, q⟩
  | ref p =>
    cases rx
    have e' : (∃ xs, SqL X.K H p xs ∧ k = !xs.isEmpty) ∨ (∃ xs, SqT X.K H p xs ∧ k = !xs.isEmpty) ∨ ∃ kvs, H p = some (.dK kvs) ∧ k = !kvs.isEmpty := e
    rcases e' with ⟨xs, hx, e'⟩ | ⟨xs, hx, e'⟩ | ⟨kvs, hx, e'⟩
    · subst e'
      obtain ⟨its, r, pl, hz⟩ := I.list hx
      have hlen := r.length
      exact wpAny_truthy_list pl.isList (by simp only [List.size_toArray]; omega) ⟨H, I.tok _, by rw [isEmpty_of r]; exact q⟩
    · subst e'
      obtain ⟨its, r, pl, hz⟩ := I.tuple hx
      have hlen := r.length
      exact truthy_tuple pl (by simp only [List.size_toArray]; omega) ⟨H, I.tok _, by rw [isEmpty_of r]; exact q⟩
    · subst e'
      obtain ⟨hz, hS, vs, r, m⟩ : kvs.length ≤ sizeLine ∧ (p == sysModules) = false ∧ ∃ vs, KV kvs vs ∧ s.heap.DictOf (mixKind X.prog X.w) p vs := I.hok p _ hx
      have hlen : kvs.length = vs.length := Paired.length r
      exact wpAny_truthy_dict hS m (by omega) ⟨H, I.tok _, by rw [isEmpty_kv r]; exact q⟩
  | _ => exact (show False from e).elim
theorem pt_truth (ha : PE X a ta) (he : ∀ whole, isTrue a X.env whole = (do let v ← whole; standAt a.pos; holding [v] (truthy v))) :
    PT X a (fun σ H Q => ta σ H fun x H' => ∃ k, TruV X.K x H' k ∧ Q k H') := by
  intro pins s σ H Q I h
  exact isTrue_plain (thn (ha pins s σ H _ I h) fun v s1 ⟨x, H1, I1, r1, q1⟩ => tru_ok pins s1 σ H1 x v Q I1 r1 q1) (he _)
theorem op_add_str : OpR X (binaryOp .Add) (fun x y H Q => ∃ i j, x = .str i ∧ y = .str j ∧ i.length + j.length ≤ sizeLine ∧ Q (.str (i ++ j)) H) := by
  intro pins s σ H x y v u Q I rx ry h
  obtain ⟨i, j, rfl, rfl, hz, q⟩ := h
  obtain ⟨t, rfl⟩ := rx
  obtain ⟨t', rfl⟩ := ry
  exact add_str (fun t' tk => ⟨.str (i ++ j), H, I.tok _, ⟨_, rfl⟩, q⟩) hz
theorem vals1 {x : V} {us : List Value} (r : Vals [x] us) : ∃ u, us = [u] ∧ RelV x u := by
  cases r with
  | cons r1 r2 => cases r2; exact ⟨_, rfl, r1⟩
theorem call_abs : CallR X (.builtin "abs") (fun xs H Q => ∃ i, xs = [.int i] ∧ Q (.int (if i < 0 then -i else i)) H) := by
  intro pins s σ H xs us Q I r h
  obtain ⟨i, rfl, q⟩ := h
  obtain ⟨u, rfl, t, rfl⟩ := vals1 r
  exact call_abs_int fun u tk => ⟨.int (if i < 0 then -i else i), H, I.tok _, ⟨_, rfl⟩, q⟩
theorem call_int1 : CallR X (.type "int") (fun xs H Q => (∃ i, xs = [.int i] ∧ Q (.int i) H) ∨ ∃ k, xs = [.bl k] ∧ Q (.int (if k then 1 else 0)) H) := by
  intro pins s σ H xs us Q I r h
  rcases h with ⟨i, rfl, q⟩ | ⟨k, rfl, q⟩
  · obtain ⟨u, rfl, t, rfl⟩ := vals1 r
    exact call_int_int ⟨.int i, H, I, ⟨_, rfl⟩, q⟩
  · obtain ⟨u, rfl, r1⟩ := vals1 r
    cases r1
    exact call_int_bool ⟨.int (if k then 1 else 0), H, I.tok _, ⟨_, rfl⟩, q⟩
end
end L2
namespace L2
open PySem PySem.Spec PyProof.Rows
structure ObjM (h : Heap) (x dx C : Addr) (mA : Str → Option Value) : Prop where
  obj : h.get? x = some (PySem.W.instObj C dx)
  ns : h.Ns1 dx mA
  ne : dx ≠ x
theorem lookIn_ns {h : Heap} {dx : Addr} {mA : Str → Option Value} (n : h.Ns1 dx mA) : ∃ od, h.get? dx = some od ∧ ∀ name, PySem.W.lookIn name od = some (mA name) := by
  obtain ⟨o, es, ep, ho, hd, hk, _, hm⟩ := n
  refine ⟨o, ho, fun name => ?_⟩
  have e := hm name
  unfold nsFind findBy at e
  rw [← Array.find?_toList] at e
  unfold PySem.W.lookIn
  rw [hd]
  dsimp only
  split
  · rename_i y q
    rw [q] at e
    exact congrArg some e
  · rename_i q
    rw [q] at e
    have a : es.toList.any (·.refKey) = false := by
      rw [List.any_eq_false]
      intro y hy
      obtain ⟨z, t, hkey⟩ := hk y (Array.mem_toList_iff.mp hy)
      simp [DictEntry.refKey, hkey]
    have a' : ¬ es.toList.any (·.refKey) = true := by rw [a]; exact Bool.false_ne_true
    rw [if_neg a']
    exact congrArg some e
theorem ObjM.look {h : Heap} {x dx C : Addr} {mA : Str → Option Value} (I : ObjM h x dx C mA) : ∃ od, PySem.W.InstAt h x (PySem.W.instObj C dx) C (some od) ∧ ∀ name, PySem.W.lookIn name od = some (mA name) :=
  let ⟨od, ho, hl⟩ := lookIn_ns I.ns
  ⟨od, ⟨I.obj, rfl, rfl, ho⟩, hl⟩
section
variable {P : Program} {w : World} {H H' : Hp} {h h' : Heap} {a C dx : Addr} {fs fs' : List (Str × V)}
theorem ins_get (hok : HOk P w H h) (e : H a = some (.ins C dx fs)) : ∃ mA, ObjM h a dx C mA ∧ (∀ f, RelO (fs.lookup f) (mA f)) ∧ PySem.Within mA (fs.map (·.1)) ∧ fs.length ≤ 1000 ∧ H dx = some (.own a) := by
  obtain ⟨d, z, ne, ob, mA, n, r, q⟩ := (show ObjOk P w H h a (.ins C dx fs) from hok a _ e)
  exact ⟨mA, ⟨ob, n, ne⟩, r, q, z, d⟩
end
structure Cls (K : PySem.W.Frag) (C : Addr) : Prop where
  pg : PySem.W.plainGet K C Str.empty = true
  hd : PySem.W.hasDictIn K C = true
  po : PySem.W.plainOver K C = true
  sa : PySem.W.findIn K (.ref C) "__setattr__" = some (some (.builtin "object.__setattr__"))
theorem Cls.get {K : PySem.W.Frag} {C : Addr} (c : Cls K C) (f : Str) : PySem.W.plainGet K C f = true := c.pg
section
variable {X : Cx} {pins : List (Addr × Obj)} {σ : St} {H : Hp} {s : Shared} {A : Around} {E : Value → Shared → Prop} {Q : Value → Shared → Prop} {c : Value} {b : Bool}
inductive TyOf (K : PySem.W.Frag) (H : Hp) : V → Value → Prop where
  | non : TyOf K H .non (.type "NoneType")
  | bl (x : Bool) : TyOf K H (.bl x) (.type "bool")
  | int (i : Int) : TyOf K H (.int i) (.type "int")
  | str (x : Str) : TyOf K H (.str x) (.type "str")
  | flt (x : UInt64) : TyOf K H (.flt x) (.type "float")
  | lst {a : Addr} {xs : List V} (e : H a = some (.lst xs)) : TyOf K H (.ref a) (.type "list")
  | frz {a : Addr} {o : Obj} {xs : List V} (e : H a = some (.frz o (.lst xs))) : TyOf K H (.ref a) (.type "list")
  | tup {a : Addr} {xs : List V} (e : H a = some (.tup xs)) : TyOf K H (.ref a) (.type "tuple")
  | dK {a : Addr} {kvs : List (Key × V)} (e : H a = some (.dK kvs)) : TyOf K H (.ref a) (.type "dict")
  | dT {a : Addr} {kvs : List (List Key × V)} (e : H a = some (.dT kvs)) : TyOf K H (.ref a) (.type "dict")
  | ins {a C dx : Addr} {fs : List (Str × V)} (e : H a = some (.ins C dx fs)) (cl : Cls K C) (ha : PySem.W.findIn K (.ref C) "__class__" = some (some (.builtin "object.__class__")))
      (hn : PySem.W.specialIn K (.builtin "object.__class__") "__get__" = some (some (.builtin "getset_descriptor.__get__"))) (htk : PySem.W.takesIn K (.builtin "object.__class__") = some true)
      (hm : PySem.W.mroIn K C (.type "object") = some true) : TyOf K H (.ref a) (.ref C)
theorem isinst_ok {x : V} {u t : Value} (I : Inv X pins σ H s) (rx : RelV x u) (ty : TyOf X.K H x t) (e : PySem.W.kitOne X.K t c = some b) (h : ∀ tk, Q (.bool b) { s with toks := tk }) :
    wpAny (model X.prog X.w) A (call (.builtin "isinstance") [u, c]) Q E s := by
  cases ty with
  | non => cases (show u = Value.none from rx); exact PySem.W.kia_one PySem.W.kitx_none I.kIn True.intro e (fun z => nomatch z) h
  | bl y => cases (show u = Value.bool y from rx); exact PySem.W.kia_one PySem.W.kitx_bool I.kIn True.intro e (fun z => nomatch z) h
  | int i => obtain ⟨t, q⟩ := (show ∃ t, u = Value.int i t from rx); cases q; exact PySem.W.kia_one PySem.W.kitx_int I.kIn True.intro e (fun z => nomatch z) h
  | str y => obtain ⟨t, q⟩ := (show ∃ t, u = Value.str y t from rx); cases q; exact PySem.W.kia_one PySem.W.kitx_str I.kIn True.intro e (fun z => nomatch z) h
  | flt y => obtain ⟨t, q⟩ := (show ∃ t, u = Value.float y t from rx); cases q; exact PySem.W.kia_one PySem.W.kitx_float I.kIn True.intro e (fun z => nomatch z) h
  | @lst a xs ea =>
    cases (show u = Value.ref a from rx)
    obtain ⟨_, _, n, _, h1⟩ := (show ObjOk X.prog X.w H s.heap a (.lst xs) from I.hok a _ ea)
    exact PySem.W.kia_one PySem.W.kitx_list I.kIn ⟨_, h1, rfl⟩ e (fun z => nomatch z) h
  | @frz a ob xs ea =>
    cases (show u = Value.ref a from rx)
    obtain ⟨_, _, _, n, _, h1⟩ := (show ObjOk X.prog X.w H s.heap a (.frz ob (.lst xs)) from I.hok a _ ea)
    exact PySem.W.kia_one PySem.W.kitx_list I.kIn ⟨_, h1, rfl⟩ e (fun z => nomatch z) h
  | @tup a xs ea =>
    cases (show u = Value.ref a from rx)
    obtain ⟨_, _, _, p⟩ := (show ObjOk X.prog X.w H s.heap a (.tup xs) from I.hok a _ ea)
    obtain ⟨o, h1, h2, _⟩ := p
    exact PySem.W.kia_one PySem.W.kitx_tuple I.kIn ⟨o, h1, h2⟩ e (fun z => nomatch z) h
  | @dK a kvs ea =>
    cases (show u = Value.ref a from rx)
    obtain ⟨_, _, vs, _, p⟩ := (show ObjOk X.prog X.w H s.heap a (.dK kvs) from I.hok a _ ea)
    obtain ⟨o, es, ep, h1, h2, _⟩ := p
    exact PySem.W.kia_one PySem.W.kitx_dict I.kIn ⟨o, h1, h2.1⟩ e (fun z => nomatch z) h
  | @dT a kvs ea =>
    cases (show u = Value.ref a from rx)
    obtain ⟨_, _, xs, _, o, es, ep, h1, h2, _⟩ := (show ObjOk X.prog X.w H s.heap a (.dT kvs) from I.hok a _ ea)
    exact PySem.W.kia_one PySem.W.kitx_dict I.kIn ⟨o, h1, h2.1⟩ e (fun z => nomatch z) h
  | @ins a C dx fs ea cl ha hn htk hm =>
    cases (show u = Value.ref a from rx)
    obtain ⟨mA, O, _⟩ := ins_get I.hok ea
    obtain ⟨od, J, _⟩ := O.look
    exact PySem.W.kia_one (PySem.W.kitx_own (cl.get _) cl.hd ha hn htk hm) I.kIn J e (fun z => nomatch z) h
end
end L2
namespace L2
open PySem PySem.Spec PyProof.Rows
structure Room (k : Nat) (A : Around) : Prop where
  hd : A.handled = none
  dp : A.depth + 3 * k + 5 < recursionLimit
  un : A.units + 16 * k + 200 < cLine
theorem Room.mono {j k : Nat} {A : Around} (r : Room k A) (h : j ≤ k) : Room j A := ⟨r.hd, by have := r.dp; omega, by have := r.un; omega⟩
theorem Room.deeper {k : Nat} {A : Around} (r : Room (k + 1) A) (env : Env) : Room k (A.deeper env) :=
  ⟨r.hd, by have := r.dp; show A.depth + 1 + 3 * k + 5 < _; omega, by have := r.un; show A.units + 3 + 16 * k + 200 < _; omega⟩
theorem Room.depth {k : Nat} {A : Around} (r : Room k A) : A.depth < recursionLimit := by have := r.dp; omega
theorem Room.units {k : Nat} {A : Around} (r : Room k A) : A.units + 64 < cLine := by have := r.un; omega
noncomputable def tNil : TA := fun _ H Q => Q [] H
noncomputable def tCons (ta : TE) (tr : TA) : TA := fun σ H Q => ta σ H fun x H1 => tr σ H1 fun xs H2 => Q (x :: xs) H2
section
variable {X : Cx} {e : Expr} {es : List Expr} {te : TE} {t : TA} {pos : Pos}
theorem pa_nil : PA X [] tNil := fun _ _ _ _ H Q I h => Calls.spliced_nil ⟨[], H, I, .nil, h⟩
theorem pa_cons (ha : PE X e te) (hr : PA X es t) (hs : starEach (e :: es) X.env = (false, eval e X.env) :: starEach es X.env := by rfl) : PA X (e :: es) (tCons te t) := by
  intro pos pins s σ H Q I h
  rw [hs]
  show wpAny _ _ (spliced ((false, eval e X.env) :: backTo pos (starEach es X.env))) _ _ s
  refine Calls.spliced_cons (thn (ha pins s σ H _ I h) fun u s1 ⟨x, H1, I1, r1, q1⟩ => ?_)
  exact thn (hr pos pins s1 σ H1 _ I1 q1) fun us s2 ⟨xs, H2, I2, r2, q2⟩ => ⟨x :: xs, H2, I2, .cons r1 r2, q2⟩
noncomputable def tTup (t : TA) : TE := fun σ H Q => t σ H fun xs H1 => xs.length ≤ sizeLine ∧ ∀ p, H1 p = none → Q (.ref p) (upd H1 p (.tup xs))
noncomputable def tLst (t : TA) : TE := fun σ H Q => t σ H fun xs H1 => xs.length ≤ sizeLine ∧ ∀ p, H1 p = none → Q (.ref p) (upd H1 p (.lst xs))
theorem pe_tup {x1} (h : PA X es t) : PE X (.Tuple es x1 pos) (tTup t) := by
  intro pins s σ H Q I hq
  refine wpAny_Tuple_spliced (thn (h pos pins s σ H _ I hq) fun us s1 ⟨xs, H1, I1, r, z, q⟩ => ⟨by rw [← r.length]; exact z, ?_⟩)
  have hf : H1 s1.heap.objs.size = none := I1.hok.fresh (Nat.le_refl _)
  refine ⟨.ref s1.heap.objs.size, upd H1 s1.heap.objs.size (.tup xs), I1.laid (t' := s1.toks) (fun b u e => Heap.get?_push_of_some _ e) (Nat.le_refl _) ?_, rfl, q _ hf⟩
  exact ⟨z, us, r, ⟨_, Heap.get?_push_size _ rfl, rfl, _, rfl⟩⟩
theorem pe_lst (h : PA X es t) : PE X (.List es pos) (tLst t) := by
  intro pins s σ H Q I hq
  refine wpAny_List_spliced (thn (h pos pins s σ H _ I hq) fun us s1 ⟨xs, H1, I1, r, z, q⟩ => ⟨by rw [← r.length]; exact z, ?_⟩)
  have hf : H1 s1.heap.objs.size = none := I1.hok.fresh (Nat.le_refl _)
  refine ⟨.ref s1.heap.objs.size, upd H1 s1.heap.objs.size (.lst xs), I1.laid (t' := s1.toks) (fun b u e => Heap.get?_push_of_some _ e) (Nat.le_refl _) ?_, rfl, q _ hf⟩
  exact ⟨z, us, 0, r, Heap.get?_push_size _ rfl⟩
end
noncomputable abbrev Sp := List V → Hp → VK → XK → Prop
noncomputable abbrev CXT := List Env → Hp → Shared → XK → Value → Shared → Prop
structure Env0 (P : Program) (w : World) (K : PySem.W.Frag) (mg : Str → Option Value) (base : Heap) (A : Around) (outer : List Env) (s : Shared) (H : Hp) : Prop where
  frames : A.frames = some outer
  mod : Mod K mg base
  bs : ∀ b o, base.get? b = some o → s.heap.get? b = some o ∧ H b = none
  bsz : base.objs.size ≤ s.heap.objs.size
  funs : s.heap.FunFrames base outer
  frf : ∀ b ∈ frs outer, H b = none
  hok : HOk P w H s.heap
  bare : AllBare s.gens
noncomputable def CE (outer : List Env) (P : Program) (w : World) (H : Hp) (s : Shared) (Q : VK) (u : Value) (s' : Shared) : Prop :=
  ∃ v H', s'.os = s.os ∧ AllBare s'.gens ∧ Un (frs outer) [] H H' s.heap s'.heap ∧ HOk P w H' s'.heap ∧ RelV v u ∧ Q v H'
noncomputable def CR (CX : CXT) (outer : List Env) (P : Program) (w : World) (H : Hp) (s : Shared) (Q : VK) (E : XK) (r : Result) (s' : Shared) : Prop :=
  match r with
  | .ok (.ret u) => CE outer P w H s Q u s'
  | .ok _ => False
  | .error e => CX outer H s E e s'
structure FnOk (P : Program) (w : World) (K : PySem.W.Frag) (mg : Str → Option Value) (base : Heap) (CX : CXT) (k : Nat) (f : Addr) (fd : FuncData) (ps : List Str) (sp : Sp) : Prop where
  len : ∀ vs H Q E, sp vs H Q E → vs.length = ps.length
  run : ∀ (A : Around) (outer : List Env) (s : Shared) (H : Hp) (args : Args) (us : List Value) (vs : List V) (Q : VK) (E : XK), Room k A → Env0 P w K mg base A outer s H → BindsTo s fd args (ps.zip us) → Vals vs us → sp vs H Q E →
    codeAny (model P w) A (.call (.ref f) args) (CR CX outer P w H s Q E) s
section
variable {X : Cx} {pins : List (Addr × Obj)} {σ : St} {H : Hp} {s s' : Shared}
theorem Inv.env0 (I : Inv X pins σ H s) : Env0 X.prog X.w X.K X.mg X.base X.A X.stack s H :=
  ⟨I.ok.frames, I.ok.mod, I.bs, Nat.le_trans I.ok.bsz I.sz, I.stack, I.stkFree, I.hok, I.bare⟩
theorem Inv.after {Q : VK} {u : Value} (I : Inv X pins σ H s) (h : CE X.stack X.prog X.w H s Q u s') : EP X pins σ Q u s' := by
  obtain ⟨v, H', os, bare, un, hok, r, q⟩ := h
  obtain ⟨hh, g, d, t, os'⟩ := s'
  obtain rfl : os' = s.os := os
  exact ⟨v, H', I.call (h' := hh) (g' := g) (d' := d) (t' := t) (ch := []) un hok bare (fun b z => absurd z (by simp)), r, q⟩
end
noncomputable def tCall (sp : Sp) (dvs : List V) (E : XK) (t : TA) : TE := fun σ H Q => t σ H fun vs H1 => sp (vs ++ dvs) H1 Q E
noncomputable def Binds (K : PySem.W.Frag) (fd : FuncData) (ps : List Str) (ds : List Value) : Prop :=
  ∀ (s : Shared) (us : List Value), K.In s.heap → (us ++ ds).length = ps.length → BindsTo s fd ⟨us, []⟩ (ps.zip (us ++ ds))
theorem Binds.all {K : PySem.W.Frag} {fd : FuncData} {ps : List Str} (h : ∀ us : List Value, us.length = ps.length → bindArgs fd ⟨us, []⟩ = pure (ps.zip us)) : Binds K fd ps [] := fun s us _ hl => by
  rw [List.append_nil] at hl ⊢
  exact .of_eq (h us hl)
noncomputable def Passes (CX : CXT) (X : Cx) (E : XK) : Prop := ∀ (pins : List (Addr × Obj)) (σ : St) (H : Hp) (s : Shared) (e : Value) (s' : Shared), Inv X pins σ H s → CX X.stack H s E e s' → X.xe e s'
section
variable {X : Cx} {CX : CXT} {k : Nat} {f C : Addr} {fd : FuncData} {ps : List Str} {sp : Sp} {dvs : List V} {ds : List Value} {E : XK} {x m : Str} {p pos apos : Pos} {e o : Expr} {es : List Expr} {ta : TE} {t : TA}
theorem run_fn {pins : List (Addr × Obj)} {σ : St} {H : Hp} {s : Shared} {Q : VK} {us : List Value} {vs : List V} (F : FnOk X.prog X.w X.K X.mg X.base CX k f fd ps sp) (hr : Room k X.A) (hb : Binds X.K fd ps ds) (hd : Vals dvs ds) (hx : Passes CX X E)
    (I : Inv X pins σ H s) (r : Vals vs us) (h : sp (vs ++ dvs) H Q E) : wpAny (model X.prog X.w) X.A (call (.ref f) us) (EP X pins σ Q) X.xe s := by
  have r2 : Vals (vs ++ dvs) (us ++ ds) := r.append hd
  have hl : (us ++ ds).length = ps.length := by rw [← r2.length]; exact F.len _ _ _ _ h
  refine wpAny_call (codeAny_mono (F.run X.A X.stack s H ⟨us, []⟩ (us ++ ds) (vs ++ dvs) Q E hr I.env0 (hb s us I.kIn hl) r2 h) fun r s' hq => ?_)
  cases r with
  | error e => exact hx pins σ H s e s' I hq
  | ok fl =>
    cases fl with
    | ret u => exact I.after hq
    | next => exact False.elim hq
    | brk => exact False.elim hq
    | cont => exact False.elim hq
theorem pe_call (F : FnOk X.prog X.w X.K X.mg X.base CX k f fd ps sp) (hr : Room k X.A) (hg : Gl X x) (hm : X.mg x = some (.ref f)) (hk : PySem.W.keepIn X.K (.ref f) = true) (hb : Binds X.K fd ps ds) (hd : Vals dvs ds) (hx : Passes CX X E)
    (ha : PA X (e :: es) t) (hdb : (x == ("__debug__" : Str)) = false := by decide) (he : starEach (e :: es) X.env = (false, eval e X.env) :: starEach es X.env := by rfl) (hpl : (backTo pos (starEach es X.env)).any (·.1) = false := by rfl) :
    PE X (.Call (.Name x p) (e :: es) [] pos) (tCall sp dvs E t) := by
  intro pins s σ H Q I h
  refine wpAny_Call_Name_kw (ld_glob I hg hm ?_ hdb)
  refine PySem.W.callWith_K (h₀ := X.base) I.ok.mod.kin hk (thn (ha pos pins s σ H _ I h) fun us s1 ⟨vs, H1, I1, r, q⟩ => ⟨I1.kIn, ?_⟩) he hpl
  exact run_fn F hr hb hd hx I1 r q
end
structure FnScope (N P : List Str) (sc : Scope) : Prop where
  kind : sc.kind = .function
  co : sc.isCoroutine = false
  gen : sc.isGenerator = false
  nd : N.Nodup
  pre : N.take P.length = P
  par : ∀ x ∈ P, sc.names.lookup x = some .local ∨ sc.names.lookup x = some .cell
  nofree : ∀ y ∈ sc.names, y.2 ≠ .free
theorem bindL_out {kindOf : Str → Option NameKind} {x : Str} : ∀ {binds : List (Str × Value)} {m : Str → Option Value}, (∀ v, (x, v) ∉ binds) → bindL kindOf binds m x = m x
  | [], _, _ => rfl
  | (n, v) :: r, m, h => by
    unfold bindL
    rw [bindL_out fun w hw => h w (List.mem_cons_of_mem _ hw)]
    split
    · have : x ≠ n := by rintro rfl; exact h v List.mem_cons_self
      simp [this]
    · rfl
theorem bindC_out {kindOf : Str → Option NameKind} {x : Str} : ∀ {binds : List (Str × Value)} {m : Str → Option Value}, (∀ v, (x, v) ∉ binds) → bindC kindOf binds m x = m x
  | [], _, _ => rfl
  | (n, v) :: r, m, h => by
    unfold bindC
    rw [bindC_out fun w hw => h w (List.mem_cons_of_mem _ hw)]
    split
    · rfl
    · have : x ≠ n := by rintro rfl; exact h v List.mem_cons_self
      simp [this]
theorem bindL_get {kindOf : Str → Option NameKind} {x : Str} {v : Value} : ∀ {P : List Str} {vs : List Value} {i : Nat} {m : Str → Option Value}, P.Nodup → P[i]? = some x → vs[i]? = some v → kindOf x = some .local →
    bindL kindOf (P.zip vs) m x = some v
  | [], _, _, _, _, h, _, _ => by simp at h
  | _ :: _, [], _, _, _, _, h, _ => by simp at h
  | p :: P, w :: vs, 0, m, nd, h1, h2, hk => by
    simp at h1 h2; subst h1; subst h2
    show bindL kindOf ((p, w) :: P.zip vs) m p = _
    unfold bindL
    rw [bindL_out fun v hv => (List.nodup_cons.mp nd).1 (List.of_mem_zip hv).1, if_pos hk]
    simp
  | p :: P, w :: vs, i + 1, m, nd, h1, h2, hk => by
    show bindL kindOf ((p, w) :: P.zip vs) m x = _
    unfold bindL
    exact bindL_get (i := i) (List.nodup_cons.mp nd).2 (by simpa using h1) (by simpa using h2) hk
theorem bindC_get {kindOf : Str → Option NameKind} {x : Str} {v : Value} : ∀ {P : List Str} {vs : List Value} {i : Nat} {m : Str → Option Value}, P.Nodup → P[i]? = some x → vs[i]? = some v → kindOf x ≠ some .local →
    bindC kindOf (P.zip vs) m x = some v
  | [], _, _, _, _, h, _, _ => by simp at h
  | _ :: _, [], _, _, _, _, h, _ => by simp at h
  | p :: P, w :: vs, 0, m, nd, h1, h2, hk => by
    simp at h1 h2; subst h1; subst h2
    show bindC kindOf ((p, w) :: P.zip vs) m p = _
    unfold bindC
    rw [bindC_out fun v hv => (List.nodup_cons.mp nd).1 (List.of_mem_zip hv).1, if_neg hk]
    simp
  | p :: P, w :: vs, i + 1, m, nd, h1, h2, hk => by
    show bindC kindOf ((p, w) :: P.zip vs) m x = _
    unfold bindC
    exact bindC_get (i := i) (List.nodup_cons.mp nd).2 (by simpa using h1) (by simpa using h2) hk
noncomputable def start (N : List Str) (vs : List V) : St := vs.map some ++ List.replicate (N.length - vs.length) none
noncomputable def cxOf (CX : CXT) (P : Program) (w : World) (K : PySem.W.Frag) (mg : Str → Option Value) (base : Heap) (N : List Str) (qual : Str) (scope : Scope) (f : Addr) (cd : Value) (A : Around) (outer : List Env) (s : Shared) (H : Hp) (E : XK) : Cx where
  prog := P
  w := w
  K := K
  mg := mg
  base := base
  A := A.deeper (envOfC qual scope s.heap.objs.size f cd)
  N := N
  s₀ := s
  H₀ := H
  env := envOfC qual scope s.heap.objs.size f cd
  outer := outer
  stack := envOfC qual scope s.heap.objs.size f cd :: outer
  ex := []
  calm := true
  fn := fun _ => true
  pn := []
  xe := fun e s' => wpAny (model P w) (A.deeper (envOfC qual scope s.heap.objs.size f cd)) (leaving (envOfC qual scope s.heap.objs.size f cd) e) (fun _ s'' => CX outer H s E e s'') (fun e' s'' => CX outer H s E e' s'') s'
theorem cell_has {sc : Scope} {n : Nat} {x : Str} (h : sc.names.lookup x = some .cell) : ∃ c, (cellsFrom n sc.names []).lookup x = some c := by
  have q := PySem.W.cellsFrom_some sc.names n [] (.inl h)
  exact Option.isSome_iff_exists.mp q
theorem inv_start {CX : CXT} {P : Program} {w : World} {K : PySem.W.Frag} {mg : Str → Option Value} {base : Heap} {N ps : List Str} {qual : Str} {scope : Scope} {f : Addr} {cd : Value} {A : Around} {outer : List Env} {s s1 : Shared} {H : Hp} {E : XK} {us : List Value} {vs : List V}
    (S : FnScope N ps scope) (hd : A.handled = none) (e0 : Env0 P w K mg base A outer s H) (hl : vs.length = ps.length) (r : Vals vs us)
    (x : InCallC s s.heap.objs.size (bindL (envOfC qual scope s.heap.objs.size f cd).kindOf (ps.zip us) fun _ => none) (cellsFrom (s.heap.objs.size + 1) scope.names []) (bindC (envOfC qual scope s.heap.objs.size f cd).kindOf (ps.zip us) fun _ => none) s1) :
    Inv (cxOf CX P w K mg base N qual scope f cd A outer s H E) [] (start N vs) H s1 := by
  have hpl : ps.length ≤ N.length := by have := congrArg List.length S.pre; rw [List.length_take] at this; omega
  obtain ⟨h1, tk, rfl, hk⟩ := x.done
  have noA : ∀ b : Addr, b ∉ (cxOf CX P w K mg base N qual scope f cd A outer s H E).ex := fun b z => absurd (show b ∈ ([] : List Addr) from z) (by simp)
  refine ⟨⟨e0.mod, S.kind, rfl, rfl, Nat.le_refl _, fun y z c h1 h2 => ?_, fun y hy => ?_, fun y c _ h => ?_, fun _ => hd, Around.frames_deeper e0.frames, .inr ⟨rfl, rfl⟩, fun b z => absurd z (noA b), e0.bs, e0.bsz, fun b _ _ => noA b, fun b z => absurd z (noA b), e0.funs, e0.frf⟩,
    rfl, e0.bare, Un.kept hk, ⟨_, x.toInCall.ns, fun i y v h1 h2 h3 => ?_⟩, fun y c h => ⟨_, x.cell y c h⟩, e0.hok.fresh (Nat.le_refl _), fun y c h => ?_, fun p hp => absurd (show p ∈ ([] : List (Addr × Obj)) from hp) (by simp), e0.hok.kept hk, ?_⟩
  · exact name_of_addr x.apart (PySem.mem_of_lookup h1) (PySem.mem_of_lookup h2)
  · have hy : scope.names.lookup y = some .cell ∨ scope.names.lookup y = some .free := hy
    rcases hy with hy | hy
    · exact cell_has hy
    · exact absurd rfl (S.nofree _ (PySem.mem_of_lookup hy))
  · exact Nat.le_of_lt (x.above y c (PySem.mem_of_lookup h))
  · have hi : i < vs.length := by
      unfold start at h2
      by_cases hi : i < vs.length
      · exact hi
      · rw [List.getElem?_append_right (by simpa using hi)] at h2
        rw [List.getElem?_replicate] at h2
        split at h2 <;> cases h2
    have ha : vs[i]? = some v := by
      unfold start at h2
      rw [List.getElem?_append_left (by simpa using hi), List.getElem?_map] at h2
      cases e : vs[i]? with
      | none => rw [e] at h2; cases h2
      | some a => rw [e] at h2; cases h2; rfl
    obtain ⟨u, hu, rv⟩ := r.get ha
    have hp : ps[i]? = some y := by
      rw [← S.pre, List.getElem?_take_of_lt (by omega)]; exact h1
    have ndP : ps.Nodup := by rw [← S.pre]; exact S.nd.sublist (List.take_sublist _ _)
    refine ⟨u, rv, ?_⟩
    rcases S.par y (List.mem_of_getElem? hp) with k | k
    · exact .inl ⟨k, bindL_get ndP hp hu k⟩
    · obtain ⟨c, e⟩ := cell_has (n := s.heap.objs.size + 1) k
      refine .inr ⟨.inl k, c, e, ?_⟩
      have q := x.cell y c e
      rw [bindC_get ndP hp hu (by show scope.names.lookup y ≠ _; rw [k]; decide)] at q
      exact q
  · exact e0.hok.fresh (Nat.le_of_lt (x.above y c (PySem.mem_of_lookup h)))
  · unfold start
    show _ = N.length
    rw [List.length_append, List.length_map, List.length_replicate]
    omega
theorem fn_of {CX : CXT} {P : Program} {w : World} {K : PySem.W.Frag} {mg : Str → Option Value} {base : Heap} {k : Nat} {f : Addr} {name qual : Str} {params : Arguments} {body : List Stmt} {scope : Scope} {dV kV doc pm cdv ct oc : Value} {an od : Option Addr}
    {osl : Array (Option Value)} {N ps : List Str} {sp : Sp} (lk : K.lookup f = some ⟨oc, od, .func (PySem.W.fnOf name qual params body scope dV kV doc pm an cdv ct), osl⟩) (hcd : PySem.W.codeIn K cdv qual = true) (S : FnScope N ps scope)
    (len : ∀ vs H Q E, sp vs H Q E → vs.length = ps.length)
    (hbody : ∀ (A : Around) (outer : List Env) (s : Shared) (H : Hp) (vs : List V) (Q : VK) (E : XK), Room k (A.deeper (envOfC qual scope s.heap.objs.size f cdv)) → sp vs H Q E →
      ∃ t, PSs (cxOf CX P w K mg base N qual scope f cdv A outer s H E) body t ∧ t { nx := fun _ H' => Q .non H', rt := Q } (start N vs) H) :
    FnOk P w K mg base CX (k + 1) f (PySem.W.fnOf name qual params body scope dV kV doc pm an cdv ct) ps sp := by
  refine ⟨len, fun A outer s H args us vs Q E hr e0 hb r hsp => ?_⟩
  have hl := len _ _ _ _ hsp
  have KX : K.In s.heap := e0.mod.kin.keeps fun b o e => (e0.bs b o e).1
  have lim : s.heap.NoLimit := e0.mod.nolimit.keeps fun b o e => (e0.bs b o e).1
  have hkind : ∀ y ∈ ps.zip us, scope.names.lookup y.1 = some .local ∨ (scope.names.lookup y.1 = some .cell ∧ ((cellsFrom (s.heap.objs.size + 1) scope.names []).lookup y.1).isSome = true) := fun ⟨n, v⟩ hy => by
    rcases S.par n (List.of_mem_zip hy).1 with q | q
    · exact .inl q
    · exact .inr ⟨q, PySem.W.cellsFrom_some _ _ _ (.inl q)⟩
  refine codeAny_call_function hr.depth (KX _ _ lk) rfl S.co S.gen rfl (PySem.W.codeRec_of KX hcd) (hb _ _ _ _ ?_)
  refine wpAny_newFunctionEnv_cells S.kind hkind fun env he s1 x => ?_
  subst he
  refine ⟨lim.keeps x.toInCall.keep, codeAny_func ?_⟩
  obtain ⟨t, ht, hq⟩ := hbody A outer s H vs Q E (hr.deeper _) hsp
  have I : Inv (cxOf CX P w K mg base N qual scope f cdv A outer s H E) [] (start N vs) H s1 := inv_start S hr.hd e0 hl r x
  refine wpAny_mono (ht [] s1 (start N vs) H _ I hq) (fun fl s' hs => ?_) fun e s' hs => hs
  have fin : ∀ {σ' : St} {H' : Hp} {v : V} {u : Value}, Inv (cxOf CX P w K mg base N qual scope f cdv A outer s H E) [] σ' H' s' → RelV v u → Q v H' → CE outer P w H s Q u s' :=
    fun {σ' H' v u} J rv q => ⟨v, H', J.os, J.bare, J.base, J.hok, rv, q⟩
  cases fl with
  | ret u =>
    obtain ⟨v, σ', H', J, rv, q⟩ := hs
    exact fin J rv q
  | next =>
    obtain ⟨σ', H', J, q⟩ := hs
    exact fin (v := V.non) (u := Value.none) J rfl q
  | brk =>
    obtain ⟨_, _, _, q⟩ := hs
    exact False.elim q
  | cont =>
    obtain ⟨_, _, _, q⟩ := hs
    exact False.elim q
end L2
namespace L2
open PySem PySem.Spec PyProof.Rows
section
variable {X : Cx} {x : Str} {p pos : Pos} {e : Expr} {es : List Expr} {t : TA} {id T : String} {r : List V → Hp → VK → Prop}
noncomputable def tCB (r : List V → Hp → VK → Prop) (t : TA) : TE := fun σ H Q => t σ H fun vs H1 => r vs H1 Q
theorem pe_callB (hc : CallR X (.builtin id) r) (hg : Gl X x) (hm : X.mg x = none) (hv : bootBuiltins x = some (.builtin id)) (ha : PA X (e :: es) t) (hn : x ≠ "__name__" := by decide) (hdb : (x == ("__debug__" : Str)) = false := by decide)
    (he : starEach (e :: es) X.env = (false, eval e X.env) :: starEach es X.env := by rfl) (hpl : (backTo pos (starEach es X.env)).any (·.1) = false := by rfl) : PE X (.Call (.Name x p) (e :: es) [] pos) (tCB r t) := by
  intro pins s σ H Q I h
  refine wpAny_Call_Name_kw (ld_blt I hg hm hv ?_ hn hdb)
  exact PyProof.Rows.callWith_builtin1 (thn (ha pos pins s σ H _ I h) fun us s1 ⟨vs, H1, I1, r1, q1⟩ => hc pins s1 σ H1 vs us Q I1 r1 q1) he hpl
theorem pe_callTy (hc : CallR X (.type T) r) (hg : Gl X x) (hm : X.mg x = none) (hv : bootBuiltins x = some (.type T)) (ha : PA X (e :: es) t) (hn : x ≠ "__name__" := by decide) (hdb : (x == ("__debug__" : Str)) = false := by decide)
    (he : starEach (e :: es) X.env = (false, eval e X.env) :: starEach es X.env := by rfl) (hpl : (backTo pos (starEach es X.env)).any (·.1) = false := by rfl) : PE X (.Call (.Name x p) (e :: es) [] pos) (tCB r t) := by
  intro pins s σ H Q I h
  refine wpAny_Call_Name_kw (ld_blt I hg hm hv ?_ hn hdb)
  exact PyProof.Rows.callWith_type1 (thn (ha pos pins s σ H _ I h) fun us s1 ⟨vs, H1, I1, r1, q1⟩ => hc pins s1 σ H1 vs us Q I1 r1 q1) he hpl
end
end L2
namespace HT
open PySem PyProof.Rows
section
open PySem.SeqAt
open PySem.AutoSeq1 (wpAny_loadPart')
open PySem.MeetsSeq PySem.MeetsSeq2 PySem.MeetsSeq3
end
section
variable {prog : Program} {w : World} {A : Around} {E : Value → Shared → Prop} {s : Shared}
theorem cat_tup {t b : Addr} {vs ws : List Value} {Q : Value → Shared → Prop} (ht : IsTup s.heap t vs.toArray) (hb : IsTup s.heap b ws.toArray) (hv : vs ≠ [])
    (h1 : ws = [] → Q (.ref t) s) (h2 : ws ≠ [] → Q (.ref s.heap.objs.size) { s with heap := s.heap.push { cls := .type "tuple", data := .seq (vs ++ ws).toArray } })
    (hsz : vs.length + ws.length ≤ sizeLine) : wpAny (model prog w) A (binaryOp .Add (.ref t) (.ref b)) Q E s := by
  obtain ⟨⟨cls, dd, data, sl⟩, ho, hc, n, hd⟩ := id ht
  obtain ⟨⟨cls2, dd2, data2, sl2⟩, ho2, hc2, n2, hd2⟩ := id hb
  simp only at hc hd hc2 hd2
  subst hc hd hc2 hd2
  have e : vs.toArray ++ ws.toArray = (vs ++ ws).toArray := by simp
  by_cases hw : ws = []
  · exact concat_meets ⟨_, ho, rfl⟩ ⟨_, ho2, rfl⟩ noFill_tuple_add seq_tuple_add PySem.F.slot_tuple_add PySem.F.entry_tuple_add (PySem.F.args_tuple_add_2 _ _)
      (tuple_addW1 t b vs.toArray ws.toArray n n2 dd dd2 sl sl2 (by simpa using hv) (by simp [hw])) ⟨ho, ho2, h1 hw⟩
  · refine concat_meets ⟨_, ho, rfl⟩ ⟨_, ho2, rfl⟩ noFill_tuple_add seq_tuple_add PySem.F.slot_tuple_add PySem.F.entry_tuple_add (PySem.F.args_tuple_add_2 _ _)
      (tuple_addW2 t b vs.toArray ws.toArray n n2 dd dd2 sl sl2 (by simpa using hv) (by simpa using hw) (by rw [List.size_toArray, List.size_toArray]; exact hsz)) ⟨ho, ho2, ?_⟩
    rw [e]
    exact h2 hw
noncomputable def sIx (n d : Nat) : Option Int → Nat
  | none => d
  | some v => if v < 0 then (v + (n : Int)).toNat else min v.toNat n
theorem sIx_nat (n d k : Nat) : sIx n d (some (k : Int)) = min k n := by
  show (if (k : Int) < 0 then ((k : Int) + (n : Int)).toNat else min (k : Int).toNat n) = min k n
  rw [if_neg (by omega), Int.toNat_natCast]
theorem sIx_le (n d : Nat) (hd : d ≤ n) (o : Option Int) : sIx n d o ≤ n := by
  cases o with
  | none => exact hd
  | some v =>
    show (if v < 0 then (v + (n : Int)).toNat else min v.toNat n) ≤ n
    by_cases hv : v < 0
    · rw [if_pos hv]; omega
    · rw [if_neg hv]; exact Nat.min_le_right _ _
theorem clip_eq (v : Int) (n d : Nat) : (if v < 0 then max (v + (n : Int)) 0 else min v (n : Int)) = ((sIx n d (some v) : Nat) : Int) := by
  show (if v < 0 then max (v + (n : Int)) 0 else min v (n : Int)) = (((if v < 0 then (v + (n : Int)).toNat else min v.toNat n) : Nat) : Int)
  by_cases hv : v < 0
  · simp only [if_pos hv]; omega
  · simp only [if_neg hv]; omega
theorem adjust_gen (lo hi : Option Int) (n : Nat) : Builtin.Slice.sliceAdjust lo hi 1 (n : Int) = (((sIx n 0 lo : Nat) : Int), ((sIx n n hi : Nat) : Int)) := by
  have h1 : ¬ ((1 : Int) < 0) := by omega
  unfold Builtin.Slice.sliceAdjust
  simp only [h1, if_false]
  refine Prod.ext ?_ ?_
  · cases lo with
    | none => rfl
    | some v => exact clip_eq v n 0
  · cases hi with
    | none => rfl
    | some v => exact clip_eq v n n
theorem places_gen (i j : Nat) : Builtin.Slice.slicePlaces (i : Int) (j : Int) 1 = j - i := by
  unfold Builtin.Slice.slicePlaces
  have h1 : (1 : Int) > 0 := by omega
  simp only [h1, if_true, Int.ediv_one]
  split <;> omega
theorem slicePart_ {v : Value} {o : Option Int} {Q : Option Int → Shared → Prop} (p : IsPart v o) (h : Q o s) : wpAny (model prog w) A (Builtin.Slice.slicePartIndex v) Q E s := by
  cases p with
  | none => exact slicePart_none h
  | int i t => exact slicePart_int h
theorem sliceApplied_gen {sl : Addr} {vl vu : Value} {lo hi : Option Int} {n : Nat} {Q : Int × Int × Nat → Shared → Prop} (hs : s.heap.IsSliceOf sl vl vu .none) (pl : IsPart vl lo) (pu : IsPart vu hi)
    (h : Q (((sIx n 0 lo : Nat) : Int), 1, sIx n n hi - sIx n 0 lo) s) : wpAny (model prog w) A (Builtin.Slice.sliceApplied (.ref sl) (pure (n : Int))) Q E s := by
  obtain ⟨os, hos, hcs, hds⟩ := id hs
  unfold Builtin.Slice.sliceApplied Builtin.Slice.sliceFields
  refine wpAny_bind (wpAny_bind (wpAny_field hos hds (x := vl) rfl (wpAny_bind (wpAny_field hos hds (x := vu) rfl (wpAny_bind (wpAny_field hos hds (x := .none) rfl (wpAny_pure ?_)))))))
  refine wpAny_bind (slicePart_none ?_)
  show wpAny _ _ (if ((1 : Int) == 0) = true then _ else _) _ _ s
  rw [if_neg (by decide)]
  refine wpAny_bind (slicePart_ pl (wpAny_bind (slicePart_ pu (wpAny_bind (wpAny_pure ?_)))))
  show wpAny _ _ (match Builtin.Slice.sliceAdjust lo hi 1 (n : Int) with | (lo, hi) => pure (lo, (1 : Int), Builtin.Slice.slicePlaces lo hi 1)) _ _ s
  rw [adjust_gen lo hi n]
  show wpAny _ _ (pure (((sIx n 0 lo : Nat) : Int), (1 : Int), Builtin.Slice.slicePlaces ((sIx n 0 lo : Nat) : Int) ((sIx n n hi : Nat) : Int) 1)) _ _ s
  rw [places_gen]
  exact wpAny_pure h
theorem pick_gen (xs : Array Value) (i k : Nat) : ((List.range k).filterMap fun (m : Nat) => xs[((i : Int) + (m : Int) * 1).toNat]?).toArray = ((xs.toList.drop i).take k).toArray := by
  have e : (fun (m : Nat) => xs[((i : Int) + (m : Int) * 1).toNat]?) = fun m => xs[i + m]? := by
    funext m
    have : ((i : Int) + (m : Int) * 1).toNat = i + m := by omega
    rw [this]
  rw [e]
  have := pick_run xs i k
  rw [List.filterMap_map] at this
  have e2 : ((fun x => xs[x]?) ∘ fun x => i + x) = fun m => xs[i + m]? := rfl
  rw [e2] at this
  rw [this]
theorem getItem_tuple_cut {t sl : Addr} {items : Array Value} {vl vu : Value} {lo hi : Option Int} {Q : Value → Shared → Prop} (ht : IsTup s.heap t items) (hs : s.heap.IsSliceOf sl vl vu .none) (pl : IsPart vl lo) (pu : IsPart vu hi)
    (hw : ¬ (sIx items.size 0 lo = 0 ∧ sIx items.size items.size hi = items.size))
    (h : Q (.ref s.heap.objs.size) { s with heap := s.heap.push { cls := .type "tuple", data := .seq ((items.toList.drop (sIx items.size 0 lo)).take (sIx items.size items.size hi - sIx items.size 0 lo)).toArray } })
    (hsz : items.size ≤ sizeLine) : wpAny (model prog w) A (getItem (.ref t) (.ref sl)) Q E s := by
  have htake : sizeOk (.seq ((items.toList.drop (sIx items.size 0 lo)).take (sIx items.size items.size hi - sIx items.size 0 lo)).toArray) := by
    show ((items.toList.drop (sIx items.size 0 lo)).take (sIx items.size items.size hi - sIx items.size 0 lo)).toArray.size ≤ sizeLine
    rw [List.size_toArray, List.length_take, List.length_drop, Array.length_toList]
    omega
  have hj : sIx items.size items.size hi ≤ items.size := sIx_le _ _ (Nat.le_refl _) hi
  obtain ⟨os, hos, hcs, hds⟩ := id hs
  have hTs : s.TypeIs (.ref sl) "slice" := ⟨os, hos, hcs⟩
  unfold getItem
  try with_reducible refine wpAny_holding ?_
  first | refine wpAny_bind (wpAny_pure ?_) | skip
  refine wpAny_bind (wpAny_sequenceKey ht.typeIs (by decide) ?_)
  refine wpAny_bind (wpAny_callSpecial?_slot (name := Str.ofString "__getitem__") ht.typeIs PyProof.Rows.slot_tuple_getitem
    (wpAny_call_entry PyProof.Rows.slot_tuple_getitem ht.typeIs entry_tuple_getitem ?_ (args_tuple_getitem _ _)))
  show wpAny _ _ (Builtin.Tuple.tupleItemsOf (.ref t) >>= _) _ _ s
  refine wpAny_bind (tupleItemsOf_ ht ?_)
  refine wpAny_bind (wpAny_typeOf hTs ?_)
  rw [if_pos (by decide)]
  refine wpAny_bind (sliceApplied_gen hs pl pu ?_)
  have hno : ¬ ((((sIx items.size 0 lo : Nat) : Int) == 0 && (1 : Int) == 1 && (sIx items.size items.size hi - sIx items.size 0 lo) == items.size) = true) := by
    intro q
    rw [Bool.and_eq_true, Bool.and_eq_true] at q
    have q1 : ((sIx items.size 0 lo : Nat) : Int) = 0 := eq_of_beq q.1.1
    have q2 : sIx items.size items.size hi - sIx items.size 0 lo = items.size := eq_of_beq q.2
    exact hw ⟨by omega, by omega⟩
  show wpAny _ _ (if (((sIx items.size 0 lo : Nat) : Int) == 0 && (1 : Int) == 1 && (sIx items.size items.size hi - sIx items.size 0 lo) == items.size) = true then _ else _) _ _ s
  rw [if_neg hno, pick_gen]
  first
    | exact wpAny_bind (m := Builtin.Tuple.tupleExact _) (wpAny_newObj_type (wpAny_pure ⟨_, rfl, wpAny_pure h⟩) htake)
    | exact wpAny_bind (m := Builtin.Tuple.tupleExact _) (wpAny_newObj_type (wpAny_bind (wpAny_pure (wpAny_pure ⟨_, rfl, wpAny_pure h⟩))) htake)
    | exact wpAny_bind (wpAny_bind (m := Builtin.Tuple.tupleExact _) (wpAny_newObj_type (wpAny_pure (wpAny_pure ⟨_, rfl, wpAny_pure h⟩)) htake))
    | exact wpAny_bind (wpAny_bind (m := Builtin.Tuple.tupleExact _) (wpAny_newObj_type (wpAny_pure ⟨_, rfl, wpAny_pure h⟩) htake))
end
end HT
namespace L2
open PySem PySem.Spec PyProof.Rows
noncomputable abbrev TO := St → Hp → (Option Int → Hp → Prop) → Prop
noncomputable def PO (X : Cx) (e : Option Expr) (t : TO) : Prop :=
  ∀ (pins : List (Addr × Obj)) (s : Shared) (σ : St) (H : Hp) (Q : Option Int → Hp → Prop), Inv X pins σ H s → t σ H Q →
    wpAny (model X.prog X.w) X.A (evalPart e X.env) (fun u s' => ∃ o H', Inv X pins σ H' s' ∧ IsPart u o ∧ Q o H') X.xe s
noncomputable def tNoPart : TO := fun _ H Q => Q none H
noncomputable def tPart (t : TE) : TO := fun σ H Q => t σ H fun x H1 => ∃ i, x = .int i ∧ Q (some i) H1
section
variable {X : Cx} {e : Expr} {te : TE} {lo hi : Option Expr} {tl th : TO} {pos p2 : Pos}
theorem po_none : PO X none tNoPart := by
  intro pins s σ H Q I h
  rw [evalPart_none]
  exact wpAny_pure ⟨none, H, I, .none, h⟩
theorem po_some (h : PE X e te) : PO X (some e) (tPart te) := by
  intro pins s σ H Q I hw
  rw [evalPart_some]
  refine thn (h pins s σ H _ I hw) fun u s1 ⟨x, H1, I1, r1, q1⟩ => ?_
  obtain ⟨i, rfl, q⟩ := q1
  obtain ⟨t, rfl⟩ := r1
  exact ⟨some i, H1, I1, .int i t, q⟩
noncomputable def SlR (X : Cx) (r : V → Option Int → Option Int → Hp → VK → Prop) : Prop :=
  ∀ (pins : List (Addr × Obj)) (s : Shared) (σ : St) (H : Hp) (x : V) (v vl vu : Value) (lo hi : Option Int) (sl : Addr) (Q : VK), Inv X pins σ H s → RelV x v → s.heap.IsSliceOf sl vl vu .none → IsPart vl lo → IsPart vu hi → r x lo hi H Q →
    ∃ T id, typeLookup (.type T) "__getitem__" = pure (some (.builtin id)) ∧ s.TypeIs v T ∧ wpAny (model X.prog X.w) X.A (getItem v (.ref sl)) (EP X pins σ Q) X.xe s
theorem SlR.or {r r' : V → Option Int → Option Int → Hp → VK → Prop} (h : SlR X r) (h' : SlR X r') : SlR X (fun x lo hi H Q => r x lo hi H Q ∨ r' x lo hi H Q) := by
  intro pins s σ H x v vl vu lo hi sl Q I rx hs pl pu q
  rcases q with q | q
  · exact h pins s σ H x v vl vu lo hi sl Q I rx hs pl pu q
  · exact h' pins s σ H x v vl vu lo hi sl Q I rx hs pl pu q
noncomputable def tSl (r : V → Option Int → Option Int → Hp → VK → Prop) (te : TE) (tl th : TO) : TE := fun σ H Q => te σ H fun x H1 => tl σ H1 fun l H2 => th σ H2 fun u H3 => r x l u H3 Q
theorem pe_slice {r : V → Option Int → Option Int → Hp → VK → Prop} (hr : SlR X r) (he : PE X e te) (hl : PO X lo tl) (hu : PO X hi th) : PE X (.Subscript e (.Slice lo hi none p2) pos) (tSl r te tl th) := by
  intro pins s σ H Q I h
  refine Subscript_ (thn (he pins s σ H _ I h) fun v s1 ⟨x, H1, I1, r1, q1⟩ => ?_)
  refine wpAny_Slice (thn (hl pins s1 σ H1 _ I1 q1) fun vl s2 ⟨l, H2, I2, pl, q2⟩ => thn (hu pins s2 σ H2 _ I2 q2) fun vu s3 ⟨u, H3, I3, pu, q3⟩ => ?_)
  rw [evalPart_none]
  refine wpAny_pure ?_
  have I4 : Inv X pins σ H3 { s3 with heap := s3.heap.push { cls := .type "slice", data := .fields #[vl, vu, .none] } } := I3.kept (t' := s3.toks) fun b ob q => Heap.get?_push_of_some _ q
  obtain ⟨T, id, hT, ht, hg⟩ := hr pins { s3 with heap := s3.heap.push { cls := .type "slice", data := .fields #[vl, vu, .none] } } σ H3 x v vl vu l u s3.heap.objs.size Q I4 r1 (Heap.IsSliceOf.new ..) pl pu q3
  show wpAny (model X.prog X.w) X.A (subscriptTail e (.Slice lo hi none p2) v (.ref s3.heap.objs.size)) (EP X pins σ Q) X.xe { s3 with heap := s3.heap.push { cls := .type "slice", data := .fields #[vl, vu, .none] } }
  exact tail_any (ops := [.ref s3.heap.objs.size, v]) ht hT hg (by with_unfolding_all rfl)
noncomputable def cutV (xs : List V) (lo hi : Option Int) : List V := (xs.drop (HT.sIx xs.length 0 lo)).take (HT.sIx xs.length xs.length hi - HT.sIx xs.length 0 lo)
theorem cutV_length (xs : List V) (lo hi : Option Int) : (cutV xs lo hi).length ≤ xs.length := by
  unfold cutV
  rw [List.length_take, List.length_drop]
  omega
noncomputable def rSlT (K : PySem.W.Frag) : V → Option Int → Option Int → Hp → VK → Prop := fun x lo hi H Q => ∃ a xs, x = .ref a ∧ SqT K H a xs ∧
  ¬ (HT.sIx xs.length 0 lo = 0 ∧ HT.sIx xs.length xs.length hi = xs.length) ∧ ∀ p, H p = none → Q (.ref p) (upd H p (.tup (cutV xs lo hi)))
theorem sl_tup : SlR X (rSlT X.K) := by
  intro pins s σ H x v vl vu lo hi sl Q I rx hs pl pu h
  obtain ⟨a, xs, rfl, hx, hw, q⟩ := h
  cases rx
  obtain ⟨its, r, ht, hz⟩ := I.tuple hx
  have hlen : its.toArray.size = xs.length := by rw [List.size_toArray]; exact r.length.symm
  refine ⟨"tuple", _, PyProof.Rows.slot_tuple_getitem.lookup, ht.typeIs, ?_⟩
  refine HT.getItem_tuple_cut ht hs pl pu (by rw [hlen]; exact hw) ?_ (by rw [hlen]; exact hz)
  rw [hlen]
  refine ⟨.ref s.heap.objs.size, _, I.laid (t' := s.toks) (o := .tup (cutV xs lo hi)) (fun b ob q => Heap.get?_push_of_some _ q) (Nat.le_refl _) ?_, rfl, q _ (I.hok.fresh (Nat.le_refl _))⟩
  exact ⟨Nat.le_trans (cutV_length xs lo hi) hz, _, (r.drop (HT.sIx xs.length 0 lo)).take (HT.sIx xs.length xs.length hi - HT.sIx xs.length 0 lo), IsTup.new _ _⟩
noncomputable def rCatT (K : PySem.W.Frag) : R2 := fun x y H Q => ∃ a b xs ys, x = .ref a ∧ y = .ref b ∧ SqT K H a xs ∧ SqT K H b ys ∧ xs ≠ [] ∧ xs.length + ys.length ≤ sizeLine ∧
  (ys = [] → Q (.ref a) H) ∧ (ys ≠ [] → ∀ p, H p = none → Q (.ref p) (upd H p (.tup (xs ++ ys))))
theorem Vals.nil_iff {xs : List V} {us : List Value} (r : Vals xs us) : us = [] ↔ xs = [] := by
  cases r with
  | nil => simp
  | cons _ _ => simp
theorem op_catT : OpR X (binaryOp .Add) (rCatT X.K) := by
  intro pins s σ H x y v u Q I rx ry h
  obtain ⟨a, b, xs, ys, rfl, rfl, ha, hb, hx, hz, q1, q2⟩ := h
  cases rx
  cases ry
  obtain ⟨its, r1, p1, _⟩ := I.tuple ha
  obtain ⟨its2, r2, p2, _⟩ := I.tuple hb
  refine HT.cat_tup p1 p2 (fun z => hx (r1.nil_iff.mp z)) (fun z => ⟨.ref a, H, I, rfl, q1 (r2.nil_iff.mp z)⟩) (fun z => ?_) (by rw [← r1.length, ← r2.length]; exact hz)
  refine ⟨.ref s.heap.objs.size, _, I.laid (t' := s.toks) (o := .tup (xs ++ ys)) (fun b ob q => Heap.get?_push_of_some _ q) (Nat.le_refl _) ?_, rfl, q2 (fun w => z (r2.nil_iff.mpr w)) _ (I.hok.fresh (Nat.le_refl _))⟩
  exact ⟨by rw [List.length_append]; exact hz, _, r1.append r2, IsTup.new _ _⟩
end
end L2
namespace L2
open PySem PySem.Spec PyProof.Rows
noncomputable def ixN (n : Nat) (i : Int) : Option Nat := if 0 ≤ i then (if i < n then some i.toNat else none) else if -(n : Int) ≤ i then some (i + n).toNat else none
noncomputable def atI {α : Type} (xs : List α) (i : Int) : Option α := (ixN xs.length i).bind fun j => xs[j]?
theorem ixN_seq {n : Nat} {i : Int} {j : Nat} (h : ixN n i = some j) : seqIndex? i n = some j ∧ j < n ∧ -(n : Int) ≤ i ∧ i < n := by
  unfold ixN at h
  by_cases h0 : 0 ≤ i
  · rw [if_pos h0] at h
    by_cases h1 : i < n
    · rw [if_pos h1] at h
      have e : i.toNat = j := Option.some.inj h
      exact ⟨by rw [seqIndex_of h0 h1, e], by omega, by omega, h1⟩
    · rw [if_neg h1] at h; cases h
  · rw [if_neg h0] at h
    by_cases h1 : -(n : Int) ≤ i
    · rw [if_pos h1] at h
      have e : (i + n).toNat = j := Option.some.inj h
      exact ⟨by rw [seqIndex_neg (by omega) h1, e], by omega, h1, by omega⟩
    · rw [if_neg h1] at h; cases h
theorem atI_get {α : Type} {xs : List α} {i : Int} {v : α} (h : atI xs i = some v) : ∃ j, seqIndex? i xs.length = some j ∧ xs[j]? = some v ∧ j < xs.length ∧ -(xs.length : Int) ≤ i ∧ i < xs.length := by
  unfold atI at h
  cases e : ixN xs.length i with
  | none => rw [e] at h; cases h
  | some j =>
    rw [e] at h
    obtain ⟨h1, h2, h3, h4⟩ := ixN_seq e
    exact ⟨j, h1, h, h2, h3, h4⟩
noncomputable def PlainIx (b : Expr) : Prop := ∀ o i, subscripted b false o i = operate [o, i] (getItem o i)
noncomputable def IxR (X : Cx) (r : R2) : Prop :=
  ∀ (value slice : Expr) (pins : List (Addr × Obj)) (s : Shared) (σ : St) (H : Hp) (x y : V) (v u : Value) (Q : VK), Inv X pins σ H s → RelV x v → RelV y u → r x y H Q →
    subscripted slice false v u = operate [v, u] (getItem v u) → wpAny (model X.prog X.w) X.A (subscriptTail value slice v u) (EP X pins σ Q) X.xe s
noncomputable def MtR (X : Cx) (id : String) (r : V → List V → Hp → VK → Prop) : Prop :=
  ∀ (pins : List (Addr × Obj)) (s : Shared) (σ : St) (H : Hp) (x : V) (xs : List V) (v : Value) (us : List Value) (Q : VK), Inv X pins σ H s → RelV x v → Vals xs us → r x xs H Q →
    wpAny (model X.prog X.w) X.A (call (.builtin id) (v :: us)) (EP X pins σ Q) X.xe s
section
variable {X : Cx} {a b : Expr} {ta tb : TE} {pos : Pos}
theorem IxR.or {r r' : R2} (h : IxR X r) (h' : IxR X r') : IxR X (fun x y H Q => r x y H Q ∨ r' x y H Q) := by
  intro value slice pins s σ H x y v u Q I rx ry q hs
  rcases q with q | q
  · exact h value slice pins s σ H x y v u Q I rx ry q hs
  · exact h' value slice pins s σ H x y v u Q I rx ry q hs
theorem pe_ix {r : R2} (hr : IxR X r) (ha : PE X a ta) (hb : PE X b tb) (hs : PlainIx b) : PE X (.Subscript a b pos) (tOp r ta tb) := by
  intro pins s σ H Q I h
  exact Subscript_ (binT ha hb I h fun v u s2 x y H2 I2 rx ry q => hr a b pins s2 σ H2 x y v u Q I2 rx ry q (hs _ _))
noncomputable def rIxL (K : PySem.W.Frag) : R2 := fun x y H Q => ∃ p xs i v, x = .ref p ∧ y = .int i ∧ SqL K H p xs ∧ atI xs i = some v ∧ Q v H
noncomputable def rIxT (K : PySem.W.Frag) : R2 := fun x y H Q => ∃ p xs i v, x = .ref p ∧ y = .int i ∧ SqT K H p xs ∧ atI xs i = some v ∧ Q v H
noncomputable def rIxS : R2 := fun x y H Q => ∃ z i c, x = .str z ∧ y = .int i ∧ z.length ≤ sizeLine ∧ atI z.cps.toList i = some c ∧ Q (.str ⟨#[c]⟩) H
theorem ix_list : IxR X (rIxL X.K) := by
  intro value slice pins s σ H x y v u Q I rx ry h hs
  obtain ⟨p, xs, i, z, rfl, rfl, hq, he, q⟩ := h
  cases rx
  obtain ⟨t, rfl⟩ := ry
  obtain ⟨its, r, pl, hz⟩ := I.list hq
  obtain ⟨j, h1, h2, h3, h4, h5⟩ := atI_get he
  obtain ⟨w, ew, rw'⟩ := r.get h2
  have hl := r.length
  have hn := line63
  have fin : EP X pins σ Q w s := ⟨z, H, I, rw', q⟩
  by_cases h0 : 0 ≤ i
  · have hj : i.toNat = j := by
      rw [seqIndex_of h0 h5] at h1
      exact Option.some.inj h1
    exact item_listR pl.isList h0 (by omega) (by rw [hj]; simpa using ew) fin hs
  · have hj : (i + (its.toArray.size : Int)).toNat = j := by
      rw [seqIndex_neg (by omega) h4] at h1
      rw [List.size_toArray, ← hl]
      exact Option.some.inj h1
    exact subscriptTail_builtinR (x := w) pl.isList.typeIs slot_list_getitem.lookup
      (wpAny_getItem_list_neg (Q := fun r s' => r = w ∧ EP X pins σ Q r s') pl.isList (by omega) (by rw [List.size_toArray] <;> omega) (by omega) (by rw [hj]; simpa using ew) ⟨rfl, fin⟩) hs
theorem ix_tup : IxR X (rIxT X.K) := by
  intro value slice pins s σ H x y v u Q I rx ry h hs
  obtain ⟨p, xs, i, z, rfl, rfl, hq, he, q⟩ := h
  cases rx
  obtain ⟨t, rfl⟩ := ry
  obtain ⟨its, r, pl, hz⟩ := I.tuple hq
  obtain ⟨j, h1, h2, h3, h4, h5⟩ := atI_get he
  obtain ⟨w, ew, rw'⟩ := r.get h2
  have hl := r.length
  have hn := line63
  have fin : EP X pins σ Q w s := ⟨z, H, I, rw', q⟩
  exact subscriptTail_builtinR (x := w) pl.typeIs slot_tuple_getitem.lookup
    (getItem_tuple (j := j) (Q := fun r s' => r = w ∧ EP X pins σ Q r s') pl (by omega) (by omega) (by rw [List.size_toArray, ← hl]; exact h1) (by simpa using ew) ⟨rfl, fin⟩) hs
theorem ix_str : IxR X rIxS := by
  intro value slice pins s σ H x y v u Q I rx ry h hs
  obtain ⟨z, i, c, rfl, rfl, hz, he, q⟩ := h
  obtain ⟨t, rfl⟩ := rx
  obtain ⟨t', rfl⟩ := ry
  obtain ⟨j, h1, h2, h3, h4, h5⟩ := atI_get he
  have hl : z.cps.toList.length = z.length := by simp [Str.length]
  rw [hl] at h1 h4 h5
  have hn := line63
  exact tail_any (typeIs_str s z t) slot_str_getitem.lookup (getItem_str (c := c) (by
    have e1 : decide (i < -(2 ^ 63 : Int)) = false := decide_eq_false (by omega)
    have e2 : decide (i ≥ 2 ^ 63) = false := decide_eq_false (by omega)
    rw [e1, e2, Bool.or_false]) (by rw [h1]; simpa using h2) ⟨.str ⟨#[c]⟩, H, I.tok _, ⟨_, rfl⟩, q⟩) hs
noncomputable def rIx (K : PySem.W.Frag) : R2 := fun x y H Q => rIxL K x y H Q ∨ rIxT K x y H Q ∨ rIxS x y H Q
theorem ix_seq : IxR X (rIx X.K) := ix_list.or (ix_tup.or ix_str)
theorem slice_bounds (lo hi : Option Int) (n : Nat) : (sliceBounds lo hi none n).1 = ((HT.sIx n 0 lo : Nat) : Int) ∧ (sliceBounds lo hi none n).2.1 = ((HT.sIx n n hi : Nat) : Int) ∧ (sliceBounds lo hi none n).2.2 = 1 := by
  refine ⟨?_, ?_, rfl⟩
  · cases lo with
    | none => simp [sliceBounds, HT.sIx]
    | some i =>
      simp only [sliceBounds, HT.sIx, Option.getD_none, show (1 : Int) > 0 by decide, if_true]
      by_cases h : i < 0
      · simp only [h, if_true] <;> omega
      · simp only [h, if_false] <;> omega
  · cases hi with
    | none => simp [sliceBounds, HT.sIx]
    | some i =>
      simp only [sliceBounds, HT.sIx, Option.getD_none, show (1 : Int) > 0 by decide, if_true]
      by_cases h : i < 0
      · simp only [h, if_true] <;> omega
      · simp only [h, if_false] <;> omega
theorem slicePick_cut (its : List Value) (lo hi : Option Int) : slicePick its.toArray lo hi none = ((its.drop (HT.sIx its.length 0 lo)).take (HT.sIx its.length its.length hi - HT.sIx its.length 0 lo)).toArray := by
  obtain ⟨h1, h2, h3⟩ := slice_bounds lo hi its.toArray.size
  unfold slicePick
  rw [h1, h2, h3]
  simp only [sliceRange_one, pick_run, List.size_toArray] <;> rfl
noncomputable def rSlL (K : PySem.W.Frag) : V → Option Int → Option Int → Hp → VK → Prop := fun x lo hi H Q => ∃ a xs, x = .ref a ∧ SqL K H a xs ∧ ∀ p, H p = none → Q (.ref p) (upd H p (.lst (cutV xs lo hi)))
theorem sl_list : SlR X (rSlL X.K) := by
  intro pins s σ H x v vl vu lo hi sl Q I rx hs pl pu h
  obtain ⟨a, xs, rfl, hx, q⟩ := h
  cases rx
  obtain ⟨its, r, ht, hz⟩ := I.list hx
  have hlen := r.length
  refine ⟨"list", _, slot_list_getitem.lookup, ht.isList.typeIs, ?_⟩
  refine wpAny_getItem_list_slice ht.isList hs pl pu .none (by simp) ?_ (by rw [List.size_toArray] <;> omega)
  rw [slicePick_cut, ← hlen]
  refine ⟨.ref s.heap.objs.size, _, I.laid (t' := s.toks) (o := .lst (cutV xs lo hi)) (fun b ob q => Heap.get?_push_of_some _ q) (Nat.le_refl _) ?_, rfl, q _ (I.hok.fresh (Nat.le_refl _))⟩
  exact ⟨Nat.le_trans (cutV_length xs lo hi) hz, _, 0, (r.drop (HT.sIx xs.length 0 lo)).take (HT.sIx xs.length xs.length hi - HT.sIx xs.length 0 lo), Heap.get?_push_size _ rfl⟩
noncomputable def flatV : V → Bool
  | .non => true
  | .bl _ => true
  | .int _ => true
  | .str _ => true
  | _ => false
noncomputable def eqV : V → V → Bool
  | .non, .non => true
  | .bl a, .bl b => a == b
  | .bl a, .int b => (if a then 1 else 0) == b
  | .int a, .bl b => a == (if b then 1 else 0)
  | .int a, .int b => a == b
  | .str a, .str b => a == b
  | _, _ => false
theorem eqAt_V {A : Around} {s : Shared} {y x : V} {u v : Value} (ry : RelV y u) (rx : RelV x v) (fy : flatV y = true) (fx : flatV x = true) : SeqAt.EqAt A s u v (eqV y x) := by
  cases y with
  | non =>
    cases ry
    cases x with
    | non => cases rx; exact SeqAt.EqAt.same _
    | bl b => cases rx; exact SeqAt.EqAt.none_bool b
    | int b => obtain ⟨t, rfl⟩ := rx; exact SeqAt.EqAt.none_int b t
    | str b => obtain ⟨t, rfl⟩ := rx; exact SeqAt.EqAt.none_str b t
    | _ => exact absurd (show false = true from fx) Bool.false_ne_true
  | bl a =>
    cases ry
    cases x with
    | non => cases rx; exact SeqAt.EqAt.bool_none a
    | bl b => cases rx; exact SeqAt.EqAt.bool_bool a b
    | int b => obtain ⟨t, rfl⟩ := rx; exact SeqAt.EqAt.bool_int a b t
    | str b => obtain ⟨t, rfl⟩ := rx; exact SeqAt.EqAt.bool_str a b t
    | _ => exact absurd (show false = true from fx) Bool.false_ne_true
  | int a =>
    obtain ⟨t', rfl⟩ := ry
    cases x with
    | non => cases rx; exact SeqAt.EqAt.int_none a t'
    | bl b => cases rx; exact SeqAt.EqAt.int_bool a t' b
    | int b => obtain ⟨t, rfl⟩ := rx; exact SeqAt.EqAt.int_int a t' b t
    | str b => obtain ⟨t, rfl⟩ := rx; exact SeqAt.EqAt.int_str a t' b t
    | _ => exact absurd (show false = true from fx) Bool.false_ne_true
  | str a =>
    obtain ⟨t', rfl⟩ := ry
    cases x with
    | non => cases rx; exact SeqAt.EqAt.str_none a t'
    | bl b => cases rx; exact SeqAt.EqAt.str_bool a t' b
    | int b => obtain ⟨t, rfl⟩ := rx; exact SeqAt.EqAt.str_int a t' b t
    | str b => obtain ⟨t, rfl⟩ := rx; exact SeqAt.EqAt.str_str a t' b t
    | _ => exact absurd (show false = true from fx) Bool.false_ne_true
  | _ => exact absurd (show false = true from fy) Bool.false_ne_true
noncomputable def eqU (x : V) (u : Value) : Bool := match u with
  | .none => eqV .non x
  | .bool b => eqV (.bl b) x
  | .int i _ => eqV (.int i) x
  | .str z _ => eqV (.str z) x
  | _ => false
theorem eqU_of {x y : V} {u : Value} (r : RelV y u) (f : flatV y = true) : eqU x u = eqV y x := by
  cases y with
  | non => cases r; rfl
  | bl b => cases r; rfl
  | int i => obtain ⟨t, rfl⟩ := r; rfl
  | str z => obtain ⟨t, rfl⟩ := r; rfl
  | _ => exact absurd (show false = true from f) Bool.false_ne_true
theorem any_eqU {x : V} : ∀ {xs : List V} {us : List Value}, Vals xs us → xs.all flatV = true → us.any (eqU x) = xs.any fun y => eqV y x
  | _, _, .nil, _ => rfl
  | y :: xs, u :: us, .cons r t, f => by
    rw [List.all_cons, Bool.and_eq_true] at f
    rw [List.any_cons, List.any_cons, eqU_of r f.1, any_eqU t f.2]
theorem mem_eqAt {A : Around} {s : Shared} {x : V} {v : Value} (rx : RelV x v) (fx : flatV x = true) : ∀ {xs : List V} {us : List Value}, Vals xs us → xs.all flatV = true → ∀ u ∈ us, SeqAt.EqAt A s u v (eqU x u)
  | _, _, .nil, _ => fun u hu => by cases hu
  | y :: xs, u :: us, .cons r t, f => fun u' hu => by
    rw [List.all_cons, Bool.and_eq_true] at f
    rcases List.mem_cons.mp hu with rfl | hu
    · rw [eqU_of r f.1]; exact eqAt_V r rx f.1 fx
    · exact mem_eqAt rx fx t f.2 u' hu
noncomputable def inV (x : V) (xs : List V) : Bool := xs.any fun y => eqV y x
noncomputable def rIn (K : PySem.W.Frag) (neg : Bool) : R2 := fun x y H Q => ∃ p xs, y = .ref p ∧ (SqL K H p xs ∨ SqT K H p xs) ∧ flatV x = true ∧ xs.all flatV = true ∧ Q (.bl (if neg then !inV x xs else inV x xs)) H
theorem op_in_seq : OpR X (compareOp .In) (rIn X.K false) := by
  intro pins s σ H x y v u Q I rx ry h
  obtain ⟨p, xs, rfl, hq, fx, fs, q⟩ := h
  cases ry
  rcases hq with hq | hq
  · obtain ⟨its, r, pl, hz⟩ := I.list hq
    refine SeqAt.in_listAt (eqU x) pl.isList (fun w hw => mem_eqAt rx fx r fs w (by simpa using hw)) ⟨.bl _, H, I, rfl, ?_⟩
    rw [show its.toArray.any (eqU x) = its.any (eqU x) by simp, any_eqU r fs]
    exact q
  · obtain ⟨its, r, pl, hz⟩ := I.tuple hq
    refine SeqAt.in_tupleAt (eqU x) pl (fun w hw => mem_eqAt rx fx r fs w (by simpa using hw)) ⟨.bl _, H, I, rfl, ?_⟩
    rw [show its.toArray.any (eqU x) = its.any (eqU x) by simp, any_eqU r fs]
    exact q
theorem call_len_seq : CallR X (.builtin "len") (fun xs H Q => ∃ p ys, xs = [.ref p] ∧ (SqL X.K H p ys ∨ SqT X.K H p ys) ∧ Q (.int ys.length) H) := by
  intro pins s σ H xs us Q I r h
  obtain ⟨p, ys, rfl, hq, q⟩ := h
  obtain ⟨u, rfl, rx⟩ := vals1 r
  cases rx
  have hn := line63
  rcases hq with hq | hq
  · obtain ⟨its, r', pl, hz⟩ := I.list hq
    have hlen := r'.length
    exact Calls.call_len_list pl.isList (by simp only [List.size_toArray] <;> omega) ⟨.int ys.length, H, I.tok _, ⟨s.toks + 1, by rw [List.size_toArray, hlen]⟩, q⟩
  · obtain ⟨its, r', pl, hz⟩ := I.tuple hq
    have hlen := r'.length
    exact len_tuple pl (by simp only [List.size_toArray] <;> omega) ⟨.int ys.length, H, I.tok _, ⟨s.toks + 1, by rw [List.size_toArray, hlen]⟩, q⟩
theorem call_len_str : CallR X (.builtin "len") (fun xs H Q => ∃ z, xs = [.str z] ∧ z.length ≤ sizeLine ∧ Q (.int z.length) H) := by
  intro pins s σ H xs us Q I r h
  obtain ⟨z, rfl, hz, q⟩ := h
  obtain ⟨u, rfl, t, rfl⟩ := vals1 r
  have hn := line63
  exact len_str (by omega) ⟨.int z.length, H, I.tok _, ⟨_, rfl⟩, q⟩
theorem CallR.or {f : Value} {r r' : List V → Hp → VK → Prop} (h : CallR X f r) (h' : CallR X f r') : CallR X f (fun xs H Q => r xs H Q ∨ r' xs H Q) := by
  intro pins s σ H xs us Q I rs q
  rcases q with q | q
  · exact h pins s σ H xs us Q I rs q
  · exact h' pins s σ H xs us Q I rs q
theorem call_list_of : CallR X (.type "list") (fun xs H Q => ∃ p ys, xs = [.ref p] ∧ (SqL X.K H p ys ∨ SqT X.K H p ys) ∧ ∀ l, H l = none → Q (.ref l) (upd H l (.lst ys))) := by
  intro pins s σ H xs us Q I r h
  obtain ⟨p, ys, rfl, hq, q⟩ := h
  obtain ⟨u, rfl, rx⟩ := vals1 r
  cases rx
  have fin : ∀ (its : List Value), Vals ys its → ys.length ≤ sizeLine → ∀ (h' : Heap) (c' : Nat), (∀ b o', s.heap.get? b = some o' → h'.get? b = some o') →
      h'.get? s.heap.objs.size = some { cls := .type "list", dict := none, data := .seq its.toArray c', slots := #[] } → EP X pins σ Q (.ref s.heap.objs.size) { s with heap := h' } := fun its r' hz h' c' kp e =>
    ⟨.ref s.heap.objs.size, _, I.laid (t' := s.toks) kp (Nat.le_refl _) (show ObjOk X.prog X.w _ h' _ (.lst ys) from ⟨hz, its, c', r', e⟩), rfl, q _ (I.hok.fresh (Nat.le_refl _))⟩
  rcases hq with hq | hq
  · obtain ⟨its, r', pl, hz⟩ := I.list hq
    have hlen := r'.length
    obtain ⟨o, ho, hc, n, hd⟩ := pl.isList
    exact call_list_seq p (.inl rfl) ho hc hd (fun h' c' kp e => fin its r' hz h' c' kp e) (by simp only [List.size_toArray] <;> omega)
  · obtain ⟨its, r', pl, hz⟩ := I.tuple hq
    have hlen := r'.length
    obtain ⟨o, ho, hc, n, hd⟩ := pl
    exact call_list_seq p (.inr rfl) ho hc hd (fun h' c' kp e => fin its r' hz h' c' kp e) (by simp only [List.size_toArray] <;> omega)
noncomputable def tyV (K : PySem.W.Frag) (T : String) (x : V) (H : Hp) : Prop := match x with
  | .str _ => T = "str"
  | .int _ => T = "int"
  | .ref p => (T = "list" ∧ ∃ xs, SqL K H p xs) ∨ (T = "tuple" ∧ ∃ o, K.lookup p = some o ∧ o.cls = .type "tuple" ∧ o.dict = none) ∨
      (T = "dict" ∧ ((∃ kvs, H p = some (.dK kvs)) ∨ ∃ kvs, H p = some (.dT kvs))) ∨ (T = "set" ∧ ∃ S n, H p = some (.set S n))
  | _ => False
theorem tyV_is {pins : List (Addr × Obj)} {σ : St} {H : Hp} {s : Shared} {T : String} {x : V} {v : Value} (I : Inv X pins σ H s) (r : RelV x v) (ty : tyV X.K T x H) :
    s.TypeIs v T ∧ ∀ a, v = .ref a → ∃ ob, s.heap.get? a = some ob ∧ ob.dict = none := by
  cases x with
  | str z =>
    obtain ⟨t, rfl⟩ := r
    cases (show T = "str" from ty)
    exact ⟨typeIs_str s z t, fun _ e => nomatch e⟩
  | int i =>
    obtain ⟨t, rfl⟩ := r
    cases (show T = "int" from ty)
    exact ⟨typeIs_int s i t, fun _ e => nomatch e⟩
  | ref p =>
    cases r
    rcases ty with ⟨rfl, xs, hq⟩ | ⟨rfl, o, hk, hc, hd⟩ | ⟨rfl, hk⟩ | ⟨rfl, S, n, hk⟩
    · obtain ⟨its, _, pl, _⟩ := I.list hq
      refine ⟨pl.isList.typeIs, fun a e => ?_⟩
      cases e
      obtain ⟨o, n, e, c, hd, _⟩ := pl
      exact ⟨o, e, hd⟩
    · refine ⟨⟨o, I.kIn p o hk, hc⟩, fun a e => ?_⟩
      cases e
      exact ⟨o, I.kIn _ o hk, hd⟩
    · have z : ∃ o, s.heap.get? p = some o ∧ o.ExactDict := by
        rcases hk with ⟨kvs, hk⟩ | ⟨kvs, hk⟩
        · obtain ⟨_, _, _, _, o, _, _, e, ex, _⟩ := I.hok p _ hk
          exact ⟨o, e, ex⟩
        · obtain ⟨_, _, _, _, o, _, _, e, ex, _⟩ := I.hok p _ hk
          exact ⟨o, e, ex⟩
      obtain ⟨o, e, ex⟩ := z
      refine ⟨⟨o, e, ex.1⟩, fun a e2 => ?_⟩
      cases e2
      exact ⟨o, e, ex.2.1⟩
    · obtain ⟨o, _, _, _, e, ex, _⟩ := I.hok p _ hk
      refine ⟨⟨o, e, ex.1⟩, fun a e2 => ?_⟩
      cases e2
      exact ⟨o, e, ex.2.1⟩
  | _ => exact False.elim ty
noncomputable def tBM0 (K : PySem.W.Frag) (T : String) (r : V → List V → Hp → VK → Prop) (to : TE) : TE := fun σ H Q => to σ H fun x H1 => tyV K T x H1 ∧ r x [] H1 Q
noncomputable def tBM (K : PySem.W.Frag) (T : String) (r : V → List V → Hp → VK → Prop) (to : TE) (t : TA) : TE := fun σ H Q => to σ H fun x H1 => tyV K T x H1 ∧ t σ H1 fun xs H2 => r x xs H2 Q
variable {o e : Expr} {es : List Expr} {to : TE} {t : TA} {name : Str} {apos cpos : Pos} {T id : String} {r : V → List V → Hp → VK → Prop}
theorem pe_bm0 (pa : PlainAttrs T) (slot : Slot T name id) (hty : typeOf (.builtin id) = pure (.type "method_descriptor")) (hm : MtR X id r) (ho : PE X o to)
    (hbase : attributeBase o name X.env (eval o X.env) = eval o X.env := by rfl) (hline : (apos.endLine == cpos.line) = true := by rfl) : PE X (.Call (.Attribute o name apos) [] [] cpos) (tBM0 X.K T r to) := by
  intro pins s σ H Q I h
  refine wpAny_Call_method0_late hbase hline (thn (ho pins s σ H _ I h) fun v s1 ⟨x, H1, I1, r1, ty, q1⟩ => ?_)
  obtain ⟨h1, h2⟩ := tyV_is I1 r1 ty
  exact ⟨T, id, pa, slot, hty, h1, h2, Calls.callWith_builtin rfl (PySem.evalArgs_none (hm pins s1 σ H1 x [] v [] Q I1 r1 .nil q1))⟩
theorem pe_bm (pa : PlainAttrs T) (slot : Slot T name id) (hty : typeOf (.builtin id) = pure (.type "method_descriptor")) (hm : MtR X id r) (ho : PE X o to) (ha : PA X (e :: es) t)
    (hbase : attributeBase o name X.env (eval o X.env) = eval o X.env := by rfl)
    (hfew : ((backTo cpos (starEach (e :: es) X.env)).all (fun x => !x.1) && (backToKw cpos (keywordEach [] X.env)).all (fun x => x.1.isSome)
      && decide ((e :: es).length + ([] : List Keyword).length + (if ([] : List Keyword).isEmpty then 0 else 1) < 30)) = true := by rfl)
    (hline : (apos.endLine == cpos.line) = true := by rfl) (hs : starEach (e :: es) X.env = (false, eval e X.env) :: starEach es X.env := by rfl) (hplain : (backTo cpos (starEach es X.env)).any (·.1) = false := by rfl) :
    PE X (.Call (.Attribute o name apos) (e :: es) [] cpos) (tBM X.K T r to t) := by
  intro pins s σ H Q I h
  refine wpAny_Call_method_late hbase hfew hline rfl (thn (ho pins s σ H _ I h) fun v s1 ⟨x, H1, I1, r1, ty, q1⟩ => ?_)
  obtain ⟨h1, h2⟩ := tyV_is I1 r1 ty
  refine ⟨T, id, pa, slot, hty, h1, h2, ?_⟩
  have hA := ha cpos pins s1 σ H1 _ I1 q1
  rw [hs] at hA ⊢
  refine Calls.callWith_builtin (by show (false || (backTo cpos (starEach es X.env)).any (·.1)) = false; rw [hplain] <;> rfl) (Calls.evalArgs_plain ?_)
  exact thn hA fun us s2 ⟨vs, H2, I2, r2, q2⟩ => hm pins s2 σ H2 x vs v us Q I2 r1 r2 q2
end
end L2
namespace L2
open PySem PySem.Spec PyProof.Rows
noncomputable def MtM (X : Cx) (id : String) (r : V → List V → Hp → VK → Prop) : Prop :=
  ∀ (pins : List (Addr × Obj)) (s : Shared) (σ : St) (H : Hp) (x : V) (xs : List V) (v : Value) (us : List Value) (Q : VK), Inv X pins σ H s → RelV x v → Vals xs us → r x xs H Q →
    wpAny (model X.prog X.w) X.A (call (.builtin id) (v :: us)) (EP X pins σ Q) X.xe s
theorem Vals.one : ∀ {x : V} {us : List Value}, Vals [x] us → ∃ u, us = [u] ∧ RelV x u
  | _, _, .cons r .nil => ⟨_, rfl, r⟩
theorem Vals.two : ∀ {x y : V} {us : List Value}, Vals [x, y] us → ∃ u v, us = [u, v] ∧ RelV x u ∧ RelV y v
  | _, _, _, .cons r (.cons q .nil) => ⟨_, _, rfl, r, q⟩
theorem Vals.zero : ∀ {us : List Value}, Vals [] us → us = []
  | _, .nil => rfl
theorem Vals.dropLast {xs : List V} {us : List Value} (h : Vals xs us) : Vals xs.dropLast us.dropLast := by
  induction h with
  | nil => exact .nil
  | cons r t ih =>
    cases t with
    | nil => exact .nil
    | cons q t' => exact .cons r ih
theorem Vals.eraseIdx : ∀ {xs : List V} {us : List Value} (i : Nat), Vals xs us → Vals (xs.eraseIdx i) (us.eraseIdx i)
  | _, _, _, .nil => .nil
  | _, _, 0, .cons _ t => t
  | _, _, i + 1, .cons r t => .cons r (Vals.eraseIdx i t)
theorem Vals.reverse {xs : List V} {us : List Value} (h : Vals xs us) : Vals xs.reverse us.reverse := by
  induction h with
  | nil => exact .nil
  | cons r t ih => rw [List.reverse_cons, List.reverse_cons]; exact Vals.append ih (.cons r .nil)
theorem Vals.rep {xs : List V} {us : List Value} (h : Vals xs us) : ∀ k : Nat, Vals (List.replicate k xs).flatten (List.replicate k us).flatten
  | 0 => .nil
  | k + 1 => by
    rw [List.replicate_succ, List.replicate_succ, List.flatten_cons, List.flatten_cons]
    exact Vals.append h (Vals.rep h k)
theorem erase_last {α : Type} (l : List α) : l.eraseIdx (l.length - 1) = l.dropLast := by
  induction l with
  | nil => rfl
  | cons a r ih =>
    cases r with
    | nil => rfl
    | cons b r =>
      have e : (a :: b :: r).length - 1 = ((b :: r).length - 1) + 1 := by
        have h1 : (a :: b :: r).length = r.length + 2 := rfl
        have h2 : (b :: r).length = r.length + 1 := rfl
        omega
      rw [e, List.eraseIdx_cons_succ, ih]
      all_goals rfl
section
variable {X : Cx} {pins : List (Addr × Obj)} {σ : St} {H : Hp} {s : Shared} {l b : Addr} {xs ys zs : List V}
theorem Inv.lset {its its' : List Value} {n : Nat} {f : Array Value → Array Value} {t' : Nat} (I : Inv X pins σ H s) (hH : H l = some (.lst xs))
    (e : s.heap.get? l = some { cls := .type "list", data := .seq its.toArray n }) (hf : f its.toArray = its'.toArray) (hv : Vals ys its') (hz : ys.length ≤ sizeLine) :
    Inv X pins σ (upd H l (.lst ys)) { s with heap := s.heap.update l (Obj.mapSeq f), toks := t' } := by
  have q := PySem.IsL.update e f
  rw [hf] at q
  refine I.write (x := l) (e := l) (by rw [hH]; exact trivial) (.inl rfl) (fun b' u hb hu => (Heap.get?_update_other s.heap (Obj.mapSeq f) (Ne.symm hb)).trans hu) ⟨_, q⟩ ?_
  exact ⟨hz, its', _, hv, q⟩
theorem Inv.lnew {its : List Value} {t' : Nat} (I : Inv X pins σ H s) (hv : Vals ys its) (hz : ys.length ≤ sizeLine) :
    Inv X pins σ (upd H s.heap.objs.size (.lst ys)) { s with heap := s.heap.push { cls := .type "list", data := .seq its.toArray }, toks := t' } :=
  I.laid (fun _ _ q => Heap.get?_push_of_some _ q) (Nat.le_refl _) ⟨hz, its, 0, hv, Heap.get?_push_size _ rfl⟩
theorem Inv.fresh (I : Inv X pins σ H s) : H s.heap.objs.size = none := I.hok.fresh (Nat.le_refl _)
theorem Inv.lstM (I : Inv X pins σ H s) (hH : H l = some (.lst xs)) : xs.length ≤ sizeLine ∧ ∃ (its : List Value) (n : Nat), Vals xs its ∧ xs.length = its.length ∧ s.heap.get? l = some { cls := .type "list", data := .seq its.toArray n } := by
  obtain ⟨z, its, n, r, e⟩ := I.hok l _ hH
  exact ⟨z, its, n, r, r.length, e⟩
theorem notLongL {n : Nat} (h : n ≤ sizeLine) : Builtin.List.listTooLong n = false := by
  unfold Builtin.List.listTooLong
  exact decide_eq_false (by omega)
end
section
variable {X : Cx}
noncomputable def rAppend : V → List V → Hp → VK → Prop := fun x vs H Q => ∃ l xs y, x = .ref l ∧ vs = [y] ∧ H l = some (.lst xs) ∧ xs.length < sizeLine ∧ Q .non (upd H l (.lst (xs ++ [y])))
theorem mt_append : MtM X "list.append" rAppend := by
  intro pins s σ H x vs v us Q I rx rv h
  obtain ⟨l, xs, y, rfl, rfl, hH, hz, q⟩ := h
  cases rx
  obtain ⟨u, rfl, ru⟩ := rv.one
  obtain ⟨z, its, n, r, hl, e⟩ := I.lstM hH
  refine call_meets F.slot_list_append ⟨_, e, rfl⟩ F.entry_list_append (F.args_list_append_2 _ _) (PySem.list_append l its.toArray n u (by rw [List.size_toArray]; omega)) ⟨e, ?_⟩
  refine ⟨.non, _, I.lset (its' := its ++ [u]) hH e (by simp) (r.append (.cons ru .nil)) ?_, rfl, q⟩
  rw [List.length_append, List.length_singleton]
  omega
noncomputable def rExtend : V → List V → Hp → VK → Prop := fun x vs H Q => ∃ l b xs zs, x = .ref l ∧ vs = [.ref b] ∧ H l = some (.lst xs) ∧ H b = some (.lst zs) ∧ xs.length + zs.length ≤ sizeLine ∧ Q .non (upd H l (.lst (xs ++ zs)))
theorem mt_extend : MtM X "list.extend" rExtend := by
  intro pins s σ H x vs v us Q I rx rv h
  obtain ⟨l, b, xs, zs, rfl, rfl, hH, hB, hz, q⟩ := h
  cases rx
  obtain ⟨u, rfl, ru⟩ := rv.one
  cases ru
  obtain ⟨z, its, n, r, hl, e⟩ := I.lstM hH
  obtain ⟨z2, its2, n2, r2, hl2, e2⟩ := I.lstM hB
  have hsz : its.toArray.size + its2.toArray.size ≤ sizeLine := by rw [List.size_toArray, List.size_toArray]; omega
  have hlong : ¬ (!its.toArray.isEmpty && Builtin.List.listTooLong (its.toArray.size + its2.toArray.size)) = true := by
    rw [notLongL hsz, Bool.and_false]
    exact Bool.false_ne_true
  refine call_meets F.slot_list_extend ⟨_, e, rfl⟩ F.entry_list_extend (F.args_list_extend_2 _ _)
    (AutoSeq1.list_extend_list_list_0 l its.toArray n b its2.toArray n2 hlong (by rw [List.size_toArray]; omega) (by omega)) ⟨e, e2, ?_⟩
  refine ⟨.non, _, I.lset (its' := its ++ its2) hH e (by simp) (r.append r2) ?_, rfl, q⟩
  rw [List.length_append]
  omega
noncomputable def rPop : V → List V → Hp → VK → Prop := fun x vs H Q => ∃ l xs y, x = .ref l ∧ vs = [] ∧ H l = some (.lst xs) ∧ xs[xs.length - 1]? = some y ∧ Q y (upd H l (.lst xs.dropLast))
theorem mt_pop : MtM X "list.pop" rPop := by
  intro pins s σ H x vs v us Q I rx rv h
  obtain ⟨l, xs, y, rfl, rfl, hH, hy, q⟩ := h
  cases rx
  have hus := rv.zero
  subst hus
  obtain ⟨z, its, n, r, hl, e⟩ := I.lstM hH
  obtain ⟨u, hu, ru⟩ := r.get hy
  have hy' : its.toArray[its.toArray.size - 1]? = some u := by
    show its.toArray[its.length - 1]? = some u
    rw [← Array.getElem?_toList, ← hl]
    exact hu
  refine call_meets F.slot_list_pop ⟨_, e, rfl⟩ F.entry_list_pop (F.args_list_pop_1 _) (MeetsSeq.list_pop_last l its.toArray n u hy' (by rw [List.size_toArray]; omega)) ⟨e, ?_⟩
  refine ⟨y, _, I.lset (its' := its.dropLast) hH e ?_ r.dropLast ?_, ru, q⟩
  · show its.toArray.eraseIdxIfInBounds (its.toArray.size - 1) = its.dropLast.toArray
    rw [List.size_toArray, List.eraseIdxIfInBounds_toArray, erase_last]
  · rw [List.length_dropLast]
    omega
noncomputable def rReverse : V → List V → Hp → VK → Prop := fun x vs H Q => ∃ l xs, x = .ref l ∧ vs = [] ∧ H l = some (.lst xs) ∧ Q .non (upd H l (.lst xs.reverse))
theorem mt_reverse : MtM X "list.reverse" rReverse := by
  intro pins s σ H x vs v us Q I rx rv h
  obtain ⟨l, xs, rfl, rfl, hH, q⟩ := h
  cases rx
  have hus := rv.zero
  subst hus
  obtain ⟨z, its, n, r, hl, e⟩ := I.lstM hH
  refine call_meets F.slot_list_reverse ⟨_, e, rfl⟩ F.entry_list_reverse (F.args_list_reverse_1 _) (AutoSeq1.list_reverse_list_0 l its.toArray n (by rw [List.size_toArray]; omega)) ⟨e, ?_⟩
  refine ⟨.non, _, I.lset (its' := its.reverse) hH e (by simp) r.reverse ?_, rfl, q⟩
  rw [List.length_reverse]
  omega
theorem len_rep {α : Type} (xs : List α) (k : Nat) : (List.replicate k xs).flatten.length = k * xs.length := by
  induction k with
  | zero => simp
  | succ k ih => rw [List.replicate_succ, List.flatten_cons, List.length_append, ih, Nat.succ_mul, Nat.add_comm]
end
end L2
namespace Att
open PySem PySem.W PySem.Calls PyProof.Rows
theorem ints_of_wellAll {P : Params} {h : Heap} : ∀ (ns : List Int) (vs : List Value), WellAll P h vs (ns.map WData.int) → IntsAre vs ns := by
  intro ns
  induction ns with
  | nil =>
    intro vs w
    rw [List.map_nil] at w
    cases w
    exact .nil
  | cons n ns ih =>
    intro vs w
    rw [List.map_cons] at w
    cases w with
    | cons a b =>
      cases a
      exact .cons _ _ (ih _ b)
theorem script_of {l : OpenLaw} {n : Nat} (hn : l.most = some n) {P : Params} {h : Heap} {args : List WData} {vals : List Value}
    (hpre : l.row.toRowW.claim.pre args = true) (hwl : WellAll P h vals args) :
    ∃ a vs ns, vals = [Value.ref a] ∧ args = [WData.list (ns.map WData.int)] ∧ h.get? a = some { cls := .type "list", data := .seq vs.toArray } ∧ IntsAre vs ns ∧ ns.length ≤ n := by
  have hsh : WShape.hasAll [] args [.list .int] = true := (pre_splitW hpre).1
  have hc : l.pre.holds [] { args := args } = true := (pre_splitW hpre).2
  obtain ⟨d, r, rfl, h1, h2⟩ := hasAllW_cons hsh
  obtain rfl := hasAllW_nil h2
  obtain ⟨xs, rfl, h3⟩ := hasW_list h1
  obtain ⟨ns, rfl⟩ := items_int h3
  have hlen : ns.length ≤ n := by
    unfold OpenLaw.pre at hc
    have h4 : (WTm.not (.lt (.lit (.int (n : Int))) (.len (.arg 0)))).holds [] { args := [.list (ns.map .int)] } = true := by
      have h4 := (holds_andW hc).1
      rw [hn] at h4
      exact h4
    have h5 := condW_of h4 (w_not (w_lt w_lit (w_len_list (w_arg rfl))))
    rw [List.length_map] at h5
    refine Nat.le_of_not_lt fun q => ?_
    have q' : (n : Int) < ((ns.length : Nat) : Int) := by omega
    first
      | (rw [decide_eq_true q'] at h5; exact absurd h5 (by decide))
      | (simp at h5; omega)
  cases hwl with
  | cons w1 w2 =>
    cases w2
    cases w1 with
    | list ho hall => exact ⟨_, _, ns, rfl, rfl, ho, ints_of_wellAll ns _ hall, hlen⟩
theorem post_true (l : OpenLaw) (args : List WData) : l.row.toRowW.claim.post args (.bool true) args = true :=
  postW_of (r := l.row.toRowW) (X := (true == true))
    (show WShape.has [] (.bool true) .bool = true by first | rfl | decide | simp [WShape.has, WShape.arms, WShape.armsAll])
    (show (WTm.eq .res (.lit (.bool true))).value [] { args := args, res := some (.bool true), after := args } = some (.bool (true == true)) from w_eq_bool (w_res rfl) w_lit) rfl
theorem attach_call {l : OpenLaw} {n : Nat} {q : Program} {loose : List Str} {XP : (Str → Option Value) → Heap → Prop} {YP : World → Heap → Prop} {d : DefRec}
    (hn : l.most = some n) (hdf : d.params.defaults = [])
    (call : ∀ (w : World) (s₀ s₁ : Shared) (mg mb : Str → Option Value) (fa : Addr) (o : Obj) (pm cd doc : Value) (a : Addr) (vs : List Value) (ns : List Int),
      Ground q loose [] XP w s₀ mg mb s₁.heap → YP w s₁.heap →
      s₁.heap.get? fa = some o → o.data = .func (docDef d.name d.params d.body d.scope pm cd doc) → s₁.heap.CodeRec cd d.name → mg d.name = some (.ref fa) →
      s₁.heap.get? a = some { cls := .type "list", data := .seq vs.toArray } → IntsAre vs ns → ns.length ≤ n → s₁.gens = #[] →
      codeAny (model l.prog w) callerA (.call (.ref fa) ⟨[.ref a], []⟩) (fun r s' => r = .ok (.ret (.bool true)) ∧ OldK s₁.heap s'.heap ∧ s'.os = s₁.os ∧ AllBare s'.gens) s₁) :
    WalkO q loose XP YP l.row.toRowW d [] (fun f vs => PySem.call f vs) := by
  intro w s₀ s₁ mg mb G Y fa o pm cd doc dV kV ho hd hcd hD hmg hg args vals as hpre hlay hrd hwl hlo
  obtain rfl : dV = .none := Dflts.none hD hdf
  obtain rfl : kV = .none := Dflts.noKw hD
  obtain ⟨a, vs, ns, rfl, rfl, hobj, hints, hlen⟩ := script_of hn hpre hwl
  refine enter_call (codeAny_mono (call w s₀ s₁ mg mb fa o pm cd doc a vs ns G Y ho (fd_plain hd) hcd hmg hobj hints hlen hg) fun r s' hq => ?_)
  obtain ⟨rfl, h2, h3, h4⟩ := hq
  exact ⟨.inl ⟨.bool true, .bool true, [], rfl, fun _ => rfl, .bool true, post_true l _, fun _ => ⟨List.Pairwise.nil, fun _ hm => (nomatch hm)⟩⟩, h2, h3, h4⟩
end Att
namespace L2
open PySem PySem.Spec PyProof.Rows
theorem vals_ints : ∀ {vs : List Value} {ns : List Int}, IntsAre vs ns → Vals (ns.map V.int) vs
  | _, _, .nil => .nil
  | _, _, .cons n t h => .cons ⟨t, rfl⟩ (vals_ints h)
noncomputable def Only (H : Hp) : Prop := ∀ b, H b = none ∨ ∃ o xs, H b = some (.frz o (.lst xs))
theorem law_call {P : Program} {w : World} {K : PySem.W.Frag} {mg mb : Str → Option Value} {CX : CXT} {k : Nat} {fa a : Addr} {fd : FuncData} {x : Str} {sp : Sp} {s₁ : Shared} {vs : List Value} {ns : List Int}
    (KX : K.In s₁.heap) (hns : s₁.heap.Ns mainGlobals mg) (hb : s₁.heap.Ns builtinsNs mb) (hbb : ∀ x : Str, x ≠ "__name__" → mb x = bootBuiltins x) (hlim : s₁.heap.NoLimit) (hg : s₁.gens = #[])
    (ha : s₁.heap.get? a = some { cls := .type "list", data := .seq vs.toArray }) (hi : IntsAre vs ns) (hl : ns.length ≤ sizeLine) (hr : Room k callerA)
    (F : ∀ base : Heap, K.In base → base.Ns mainGlobals mg → FnOk P w K mg base CX k fa fd [x] sp) (hbind : ∀ (s : Shared) (u : Value), BindsTo s fd ⟨[u], []⟩ [(x, u)])
    (hsp : ∀ H : Hp, Only H → SqL K H a (ns.map V.int) → sp [.ref a] H (fun v _ => v = .bl true) fun _ _ _ => False)
    (hCX : ∀ H e s', CX [] H s₁ (fun _ _ _ => False) e s' → False) :
    codeAny (model P w) callerA (.call (.ref fa) ⟨[.ref a], []⟩) (fun r s' => r = .ok (.ret (.bool true)) ∧ OldK s₁.heap s'.heap ∧ s'.os = s₁.os ∧ AllBare s'.gens) s₁ := by
  have rv := vals_ints hi
  have lenV := hi.length
  -- from an abstract heap in which nothing but the script may be tracked
  have core : ∀ H : Hp, Only H → SqL K H a (ns.map V.int) → HOk P w H s₁.heap → (∀ b, H b ≠ none → b = a) → (H a ≠ none → K.lookup a = none) →
      codeAny (model P w) callerA (.call (.ref fa) ⟨[.ref a], []⟩) (fun r s' => r = .ok (.ret (.bool true)) ∧ OldK s₁.heap s'.heap ∧ s'.os = s₁.os ∧ AllBare s'.gens) s₁ := by
    intro H hO hS hok hA hK
    have base_of : ∀ {b : Addr} {o : Obj}, s₁.heap.get? b = some o → H b = none → (hidT s₁.heap H).get? b = some o := fun e n => hidT_get e n
    have noA : ∀ {b : Addr} {o : Obj} {es : Array DictEntry} {ep : Nat}, s₁.heap.get? b = some o → o.data = .dict es ep → H b = none := fun {b o es ep} e d => by
      cases q : H b with
      | none => rfl
      | some u =>
        have e' : b = a := hA b (by rw [q]; simp)
        subst e'
        rw [ha] at e; cases e
        have d' : Data.seq vs.toArray _ = Data.dict es ep := d
        cases d'
    have nsK : ∀ {b : Addr} {m : Str → Option Value}, s₁.heap.Ns b m → (hidT s₁.heap H).Ns b m := fun {b m} ⟨o, es, ep, e, d, r⟩ => ⟨o, es, ep, base_of e (noA e d), d, r⟩
    have hKb : K.In (hidT s₁.heap H) := fun b o e => base_of (KX b o e) (by
      cases q : H b with
      | none => rfl
      | some u =>
        have e' : b = a := hA b (by rw [q]; simp)
        subst e'
        rw [hK (by rw [q]; simp)] at e; cases e)
    have hM : Mod K mg (hidT s₁.heap H) := ⟨hKb, nsK hns, ⟨mb, nsK hb, hbb⟩, let ⟨mc, h1, h2⟩ := hlim; ⟨mc, nsK h1, h2⟩⟩
    have e0 : Env0 P w K mg (hidT s₁.heap H) callerA [] s₁ H := ⟨rfl, hM, fun b o e => of_hidT e, Nat.le_of_eq (hidT_size _ _), trivial, fun b hb => absurd (show b ∈ ([] : List Addr) from hb) (by simp), hok, .of_eq hg⟩
    refine codeAny_mono ((F _ hKb (nsK hns)).run callerA [] s₁ H ⟨[.ref a], []⟩ [.ref a] [.ref a] _ _ hr e0 (hbind s₁ (.ref a)) (.cons rfl .nil) (hsp H hO hS)) fun r s' h => ?_
    cases r with
    | error e => exact (hCX H e s' h).elim
    | ok fl =>
      cases fl with
      | next => exact False.elim h
      | brk => exact False.elim h
      | cont => exact False.elim h
      | ret u =>
        obtain ⟨v, H', os, bare, un, hok', r', q⟩ := h
        have q' : v = .bl true := q
        subst q'
        obtain rfl : u = Value.bool true := r'
        refine ⟨rfl, OldK.of_keep fun b o e => ?_, os, bare⟩
        cases q : H b with
        | none => exact un.keep b o e q (by intro z; exact absurd (show b ∈ ([] : List Addr) from z) (by simp)) (by simp)
        | some u =>
          rcases hO b with z | ⟨ob, xs, z⟩
          · rw [q] at z; cases z
          · have z2 := un.frzs b ob _ z
            obtain ⟨e1, _⟩ := hok b _ z
            obtain ⟨e2, _⟩ := hok' b _ z2
            rw [e] at e1; cases e1
            exact e2
  cases hk : K.lookup a with
  | some o =>
    -- the script is one of the module's own objects
    have e := KX a o hk
    rw [ha] at e
    cases e
    refine core (fun _ => none) (fun _ => .inl rfl) (.inr ⟨_, vs.toArray, _, hk, rfl, rfl, rfl, by rw [List.size_toArray, lenV]; exact hl, by simpa using rv⟩) (fun b u z => by have z' : (none : Option HO) = some u := z; cases z') (fun b z => absurd rfl z) fun z => absurd rfl z
  | none =>
    refine core (fun b => if b = a then some (.frz { cls := .type "list", data := .seq vs.toArray } (.lst (ns.map V.int))) else none) (fun b => ?_) (.inl (.inr ⟨{ cls := .type "list", data := .seq vs.toArray }, if_pos rfl⟩)) (fun b u z => ?_) (fun b z => ?_) fun _ => hk
    · by_cases hb : b = a
      · exact .inr ⟨_, _, if_pos hb⟩
      · exact .inl (if_neg hb)
    · by_cases hb : b = a
      · have z' := (if_pos hb).symm.trans z
        cases z'
        subst hb
        exact ⟨ha, by rw [List.length_map]; exact hl, vs, _, rv, ha⟩
      · have z' := (if_neg hb).symm.trans z
        cases z'
    · by_cases hb : b = a
      · exact hb
      · exact absurd (if_neg hb) z
end L2
namespace L2
open PySem PySem.Spec PyProof.Rows
theorem walk_of {l : PySem.W.OpenLaw} {n k : Nat} {q : Program} {loose : List Str} {XP : (Str → Option Value) → Heap → Prop} {YP : World → Heap → Prop} {d : DefRec} {K : Params → PySem.W.Frag} {CX : World → CXT} {sp : World → Sp} {x : Str}
    (hn : l.most = some n) (hn2 : n ≤ sizeLine) (hdf : d.params.defaults = []) (hr : Room k callerA)
    (hY : ∀ (w : World) (h : Heap), YP w h → (K w.params).In h)
    (F : ∀ (w : World) (mg : Str → Option Value) (fa : Addr) (h : Heap), (K w.params).In h → h.Ns mainGlobals mg → mg d.name = some (.ref fa) →
      ∃ fd : FuncData, (∀ (s : Shared) (u : Value), BindsTo s fd ⟨[u], []⟩ [(x, u)]) ∧
        ∀ base : Heap, (K w.params).In base → base.Ns mainGlobals mg → FnOk l.prog w (K w.params) mg base (CX w) k fa fd [x] (sp w))
    (hsp : ∀ (w : World) (H : Hp) (a : Addr) (ns : List Int), ns.length ≤ n → Only H → SqL (K w.params) H a (ns.map V.int) → sp w [.ref a] H (fun v _ => v = .bl true) fun _ _ _ => False)
    (hCX : ∀ (w : World) (H : Hp) (s : Shared) (e : Value) (s' : Shared), CX w [] H s (fun _ _ _ => False) e s' → False) :
    PySem.W.WalkO q loose XP YP l.row.toRowW d [] (fun f vs => PySem.call f vs) := by
  refine Att.attach_call hn hdf fun w s₀ s₁ mg mb fa o pm cd doc a vs ns G Y ho hd hcd hmg hobj hints hlen hg => ?_
  have KX := hY w _ Y
  obtain ⟨fd, hb, hF⟩ := F w mg fa _ KX G.T.g hmg
  exact law_call KX G.T.g G.T.b G.T.builtins G.T.nolimit hg hobj hints (Nat.le_trans hlen hn2) hr hF hb (fun H hO hS => hsp w H a ns hlen hO hS) fun H e s' => hCX w H s₁ e s'
end L2
namespace L2
open PySem PySem.Spec PyProof.Rows
noncomputable def defArgs (s : Stmt) : Arguments := match s with
  | .FunctionDef _ a _ _ _ _ _ _ _ _ => a
  | _ => { posonlyargs := [], args := [], vararg := none, kwonlyargs := [], kw_defaults := [], kwarg := none, defaults := [] }
noncomputable def defBody (s : Stmt) : List Stmt := match s with
  | .FunctionDef _ _ b _ _ _ _ _ _ _ => b
  | _ => []
noncomputable def defScope (s : Stmt) : Scope := match s with
  | .FunctionDef _ _ _ _ _ _ sc _ _ _ => sc
  | _ => { kind := .function, names := [], isGenerator := false, isCoroutine := false }
noncomputable abbrev CX0 : CXT := fun _ _ _ _ _ _ => False
noncomputable abbrev E0 : XK := fun _ _ _ => False
theorem pass0 {X : Cx} : Passes CX0 X E0 := fun _ _ _ _ _ _ _ h => h.elim
structure Fun (K : PySem.W.Frag) (x qual : Str) (st : Stmt) (f : Addr) (fd : FuncData) : Prop where
  ex : ∃ (oc : Value) (od : Option Addr) (kV doc pm : Value) (an : Option Addr) (cdv ct : Value) (osl : Array (Option Value)),
    fd = PySem.W.fnOf x qual (defArgs st) (defBody st) (defScope st) .none kV doc pm an cdv ct ∧ K.lookup f = some ⟨oc, od, .func fd, osl⟩ ∧ PySem.W.codeIn K cdv qual = true
  kp : PySem.W.keepIn K (.ref f) = true
section
variable {P : Program} {w : World} {K : PySem.W.Frag} {mg : Str → Option Value} {base : Heap}
theorem Fun.ok {x qual : Str} {st : Stmt} {f : Addr} {fd : FuncData} {N ps : List Str} {k : Nat} {sp : Sp} (F : Fun K x qual st f fd) (S : FnScope N ps (defScope st)) (len : ∀ vs H Q E, sp vs H Q E → vs.length = ps.length)
    (hbody : ∀ (cdv : Value) (A : Around) (outer : List Env) (s : Shared) (H : Hp) (vs : List V) (Q : VK) (E : XK), Room k (A.deeper (envOfC qual (defScope st) s.heap.objs.size f cdv)) → sp vs H Q E →
      ∃ t, PSs (cxOf CX0 P w K mg base N qual (defScope st) f cdv A outer s H E).nox (defBody st) t ∧ t { nx := fun _ H' => Q .non H', rt := Q } (start N vs) H) : FnOk P w K mg base CX0 (k + 1) f fd ps sp := by
  obtain ⟨oc, od, kV, doc, pm, an, cdv, ct, osl, rfl, lk, hcd⟩ := F.ex
  refine fn_of lk hcd S len fun A outer s H vs Q E hr hsp => ?_
  obtain ⟨t, h, q⟩ := hbody cdv A outer s H vs Q E hr hsp
  exact ⟨t, h.nox, q⟩
theorem Fun.binds {x qual : Str} {st : Stmt} {f : Addr} {fd : FuncData} {ps : List Str} (F : Fun K x qual st f fd)
    (h : ∀ (kV doc pm : Value) (an : Option Addr) (cdv ct : Value) (us : List Value), us.length = ps.length → bindArgs (PySem.W.fnOf x qual (defArgs st) (defBody st) (defScope st) .none kV doc pm an cdv ct) ⟨us, []⟩ = pure (ps.zip us)) : Binds K fd ps [] := by
  obtain ⟨oc, od, kV, doc, pm, an, cdv, ct, osl, rfl, lk, hcd⟩ := F.ex
  exact .all (h kV doc pm an cdv ct)
theorem fun_mk {x qual : Str} {st : Stmt} {f : Addr} {oc : Value} {od an : Option Addr} {osl : Array (Option Value)} {kV doc pm cdv ct : Value} (l : K.lookup f = some ⟨oc, od, .func (PySem.W.fnOf x qual (defArgs st) (defBody st) (defScope st) .none kV doc pm an cdv ct), osl⟩)
    (c : PySem.W.codeIn K cdv qual = true) (k : PySem.W.keepIn K (.ref f) = true) : Fun K x qual st f (PySem.W.fnOf x qual (defArgs st) (defBody st) (defScope st) .none kV doc pm an cdv ct) := ⟨⟨oc, od, kV, doc, pm, an, cdv, ct, osl, rfl, l, c⟩, k⟩
end
noncomputable def Same (H H' : Hp) : Prop := ∀ b o, H b = some o → H' b = some o
theorem Same.refl (H : Hp) : Same H H := fun _ _ h => h
theorem Same.trans {H H1 H2 : Hp} (a : Same H H1) (b : Same H1 H2) : Same H H2 := fun c o h => b c o (a c o h)
theorem Same.free {H H' : Hp} (e : Same H H') {l : Addr} (h : H' l = Option.none) : H l = Option.none := by
  cases q : H l with
  | none => rfl
  | some o =>
    rw [e l o q] at h
    cases h
theorem Same.seq {K : PySem.W.Frag} {H H' : Hp} {a : Addr} {xs : List V} (e : Same H H') (h : SqL K H a xs) : SqL K H' a xs := by
  rcases h with (h | ⟨o, h⟩) | h
  · exact .inl (.inl (e _ _ h))
  · exact .inl (.inr ⟨o, e _ _ h⟩)
  · exact .inr h
end L2
namespace NH
section
variable {α : Type} [DecidableEq α]
noncomputable def stp (r : List (α × Int)) (p : α × Int) : List (α × Int) :=
  match r with
  | [] => if p.2 = 0 then [] else [p]
  | q :: r' => if q.1 = p.1 then (if q.2 + p.2 = 0 then r' else (p.1, q.2 + p.2) :: r') else (if p.2 = 0 then q :: r' else p :: q :: r')
noncomputable def stk (c : List (α × Int)) : List (α × Int) := c.foldl stp []
noncomputable def short (c : List (α × Int)) : List (α × Int) := (stk c).reverse
noncomputable def runs (c : List (α × Int)) : List (α × Int) := c.foldr (fun p r => stp r p) []
noncomputable def Red : List (α × Int) → Prop
  | [] => True
  | [p] => p.2 ≠ 0
  | p :: q :: r => p.2 ≠ 0 ∧ p.1 ≠ q.1 ∧ Red (q :: r)
theorem Red.tail {p : α × Int} {r : List (α × Int)} (h : Red (p :: r)) : Red r := by
  cases r with
  | nil => trivial
  | cons q r => exact h.2.2
theorem Red.head {p : α × Int} {r : List (α × Int)} (h : Red (p :: r)) : p.2 ≠ 0 := by
  cases r with
  | nil => exact h
  | cons q r => exact h.1
theorem Red.cons {p : α × Int} {r : List (α × Int)} (h0 : p.2 ≠ 0) (h1 : ∀ q ∈ r.head?, p.1 ≠ q.1) (h : Red r) : Red (p :: r) := by
  cases r with
  | nil => exact h0
  | cons q r => exact ⟨h0, h1 q rfl, h⟩
theorem Red.next {p : α × Int} {r : List (α × Int)} (h : Red (p :: r)) : ∀ q ∈ r.head?, p.1 ≠ q.1 := by
  cases r with
  | nil => intro q hq; cases hq
  | cons q r => intro q' hq; cases hq; exact h.2.1
theorem stp_red {r : List (α × Int)} (h : Red r) (p : α × Int) : Red (stp r p) := by
  cases r with
  | nil =>
    unfold stp
    by_cases h0 : p.2 = 0
    · simp [h0, Red]
    · simp [h0, Red]
  | cons q r =>
    show Red (if q.1 = p.1 then (if q.2 + p.2 = 0 then r else (p.1, q.2 + p.2) :: r) else (if p.2 = 0 then q :: r else p :: q :: r))
    by_cases e : q.1 = p.1
    · rw [if_pos e]
      by_cases z : q.2 + p.2 = 0
      · rw [if_pos z]; exact h.tail
      · rw [if_neg z]
        refine Red.cons z (fun s hs => ?_) h.tail
        rw [← e]; exact h.next s hs
    · rw [if_neg e]
      by_cases z : p.2 = 0
      · rw [if_pos z]; exact h
      · rw [if_neg z]; exact ⟨z, fun t => e t.symm, h⟩
theorem foldl_red : ∀ (c : List (α × Int)) {r : List (α × Int)}, Red r → Red (c.foldl stp r)
  | [], _, h => h
  | p :: c, _, h => foldl_red c (stp_red h p)
theorem stk_red (c : List (α × Int)) : Red (stk c) := foldl_red c trivial
theorem stp_zero {r : List (α × Int)} (h : Red r) (n : α) : stp r (n, 0) = r := by
  cases r with
  | nil => simp [stp]
  | cons q r =>
    have := h.head
    unfold stp
    by_cases e : q.1 = n
    · obtain ⟨a, b⟩ := q
      simp at e this
      subst e
      simp [this]
    · simp [e]
theorem stp_stp {r : List (α × Int)} (h : Red r) (n : α) (a b : Int) : stp (stp r (n, a)) (n, b) = stp r (n, a + b) := by
  cases r with
  | nil =>
    by_cases ha : a = 0
    · subst ha; simp [stp]
    · simp [stp, ha]
  | cons q r =>
    obtain ⟨m, u⟩ := q
    have hu : u ≠ 0 := h.head
    by_cases e : m = n
    · subst e
      by_cases z : u + a = 0
      · have e1 : stp ((m, u) :: r) (m, a) = r := by simp [stp, z]
        rw [e1]
        have ez : u + (a + b) = b := by omega
        have hn := h.next
        cases r with
        | nil =>
          by_cases hb : b = 0
          · subst hb; simp [stp]; omega
          · simp [stp, ez, hb]
        | cons s r =>
          have e2 : ¬ s.1 = m := fun t => hn s rfl t.symm
          by_cases hb : b = 0
          · subst hb; simp [stp, e2]; omega
          · simp [stp, ez, hb, e2]
      · have e1 : stp ((m, u) :: r) (m, a) = (m, u + a) :: r := by simp [stp, z]
        rw [e1]
        simp only [stp, if_true]
        rw [Int.add_assoc]
    · by_cases ha : a = 0
      · subst ha; simp [stp, e]
      · simp [stp, e, ha]
theorem stp_back {r : List (α × Int)} (h : Red r) (n : α) (a : Int) : stp (stp r (n, a)) (n, -a) = r := by
  rw [stp_stp h, Int.add_right_neg, stp_zero h]
noncomputable def contr (c : List (α × Int)) : List (α × Int) := c.reverse.map fun p => (p.1, -p.2)
theorem contr_cons (p : α × Int) (c : List (α × Int)) : contr (p :: c) = contr c ++ [(p.1, -p.2)] := by simp [contr]
theorem contr_contr (c : List (α × Int)) : contr (contr c) = c := by
  simp only [contr, List.map_reverse, List.reverse_reverse, List.map_map]
  conv => rhs; rw [← List.map_id c]
  refine List.map_congr_left fun p _ => ?_
  simp
theorem contr_length (c : List (α × Int)) : (contr c).length = c.length := by simp [contr]
theorem fold_back : ∀ (c : List (α × Int)) {r : List (α × Int)}, Red r → (c ++ contr c).foldl stp r = r
  | [], _, _ => rfl
  | p :: c, r, h => by
    rw [contr_cons, ← List.append_assoc, List.foldl_append]
    show stp ((c ++ contr c).foldl stp (stp r p)) (p.1, -p.2) = r
    rw [fold_back c (stp_red h p)]
    exact stp_back h p.1 p.2
noncomputable def sn (w : List (α × Int)) (p : α × Int) : List (α × Int) := (stp w.reverse p).reverse
noncomputable def hd2 (p x : α × Int) : List (α × Int) := if x.1 = p.1 then (if x.2 + p.2 = 0 then [] else [(p.1, x.2 + p.2)]) else (if p.2 = 0 then [x] else [p, x])
theorem stp_cons (p x : α × Int) (r : List (α × Int)) : stp (x :: r) p = hd2 p x ++ r := by
  show (if x.1 = p.1 then (if x.2 + p.2 = 0 then r else (p.1, x.2 + p.2) :: r) else (if p.2 = 0 then x :: r else p :: x :: r)) = hd2 p x ++ r
  unfold hd2
  by_cases e : x.1 = p.1
  · rw [if_pos e, if_pos e]; split <;> rfl
  · rw [if_neg e, if_neg e]; split <;> rfl
noncomputable def lt2 (x p : α × Int) : List (α × Int) := (hd2 p x).reverse
theorem sn_snoc (p x : α × Int) (r : List (α × Int)) : sn (r ++ [x]) p = r ++ lt2 x p := by
  unfold sn lt2
  rw [List.reverse_append, List.reverse_singleton, List.singleton_append, stp_cons, List.reverse_append, List.reverse_reverse]
theorem comm1 (p q : α × Int) (x : α × Int) (hx : x.2 ≠ 0) : stp (sn [x] q) p = sn (stp [x] p) q := by
  obtain ⟨n, a⟩ := p
  obtain ⟨k, b⟩ := q
  obtain ⟨m, u⟩ := x
  simp at hx
  by_cases e1 : m = n
  · subst e1
    by_cases e2 : m = k
    · subst e2
      by_cases z1 : u + a = 0 <;> by_cases z2 : u + b = 0
      · simp [stp, sn, z1, z2]
        have : a = b := by omega
        have ha : a ≠ 0 := by omega
        have hb : b ≠ 0 := by omega
        simp [ha, hb, this]
      · have hb : u + b + a = b := by omega
        by_cases b0 : b = 0
        · subst b0; simp [stp, sn, z1, hx]
        · simp [stp, sn, z1, z2, hb, b0]
      · have hb : u + a + b = a := by omega
        by_cases a0 : a = 0
        · subst a0; simp [stp, sn, z2, hx]
        · simp [stp, sn, z1, z2, hb, a0]
      · have hb : u + b + a = u + a + b := by omega
        by_cases z3 : u + a + b = 0
        · simp [stp, sn, z1, z2, hb, z3]
        · simp [stp, sn, z1, z2, hb, z3]
    · by_cases z1 : u + a = 0 <;> by_cases z2 : b = 0 <;> simp [stp, sn, e2, z1, z2]
  · by_cases e2 : m = k
    · subst e2
      by_cases z1 : u + b = 0 <;> by_cases z2 : a = 0 <;> simp [stp, sn, e1, z1, z2]
    · by_cases z1 : a = 0 <;> by_cases z2 : b = 0 <;> simp [stp, sn, e1, e2, z1, z2]
theorem comm0 (p q : α × Int) : stp (sn [] q) p = sn (stp [] p) q := by
  obtain ⟨n, a⟩ := p
  obtain ⟨k, b⟩ := q
  by_cases z1 : a = 0 <;> by_cases z2 : b = 0
  · simp [stp, sn, z1, z2]
  · by_cases e : k = n <;> simp [stp, sn, z1, z2, e]
  · by_cases e : n = k <;> simp [stp, sn, z1, z2, e]
  · by_cases e : k = n
    · subst e
      by_cases z : a + b = 0
      · have z' : b + a = 0 := by omega
        simp [stp, sn, z1, z2, z, z']
      · have z' : ¬ b + a = 0 := by omega
        simp [stp, sn, z1, z2, z, z']
        omega
    · have e' : ¬ n = k := fun t => e t.symm
      simp [stp, sn, z1, z2, e, e']
theorem comm (p q : α × Int) {w : List (α × Int)} (h : Red w) : stp (sn w q) p = sn (stp w p) q := by
  cases w with
  | nil => exact comm0 p q
  | cons x r =>
    rcases List.eq_nil_or_concat r with rfl | ⟨m, y, e⟩
    · exact comm1 p q x h
    · have e' : r = m ++ [y] := by rw [e] <;> simp
      subst e'
      have e1 : x :: (m ++ [y]) = (x :: m) ++ [y] := rfl
      have e2 : sn (x :: (m ++ [y])) q = x :: (m ++ lt2 y q) := by rw [e1, sn_snoc]; rfl
      rw [e2, stp_cons, stp_cons, ← List.append_assoc, ← List.append_assoc, sn_snoc]
theorem red_append_last : ∀ {m : List (α × Int)} {y z : α × Int}, Red (m ++ [y]) → z.2 ≠ 0 → y.1 ≠ z.1 → Red (m ++ [y] ++ [z])
  | [], y, z, h, h0, h1 => ⟨h, h1, h0⟩
  | [x], y, z, h, h0, h1 => ⟨h.1, h.2.1, red_append_last (m := []) h.2.2 h0 h1⟩
  | x :: x' :: m, y, z, h, h0, h1 => ⟨h.1, h.2.1, red_append_last (m := x' :: m) h.2.2 h0 h1⟩
theorem red_reverse : ∀ {w : List (α × Int)}, Red w → Red w.reverse
  | [], _ => trivial
  | [p], h => h
  | p :: q :: r, h => by
    have ih := red_reverse (w := q :: r) h.2.2
    rw [List.reverse_cons, List.reverse_cons]
    rw [List.reverse_cons] at ih
    exact red_append_last ih h.1 fun t => h.2.1 t.symm
theorem short_red (c : List (α × Int)) : Red (short c) := red_reverse (stk_red c)
theorem short_snoc (c : List (α × Int)) (p : α × Int) : short (c ++ [p]) = sn (short c) p := by
  unfold short stk sn
  rw [List.foldl_append, List.reverse_reverse]
  rfl
theorem short_cons (p : α × Int) : ∀ c : List (α × Int), short (p :: c) = stp (short c) p := by
  intro c
  induction hn : c.length generalizing c with
  | zero =>
    have : c = [] := List.length_eq_zero_iff.mp hn
    subst this
    simp [short, stk, stp]
    by_cases z : p.2 = 0 <;> simp [z]
  | succ n ih =>
    rcases List.eq_nil_or_concat c with rfl | ⟨m, y, e⟩
    · simp at hn
    · have e' : c = m ++ [y] := by rw [e] <;> simp
      subst e'
      have hm : m.length = n := by simp at hn; exact hn
      have e1 : p :: (m ++ [y]) = (p :: m) ++ [y] := rfl
      rw [e1, short_snoc, ih m hm, short_snoc, comm p y (short_red m)]
theorem short_eq_runs : ∀ c : List (α × Int), short c = runs c
  | [] => rfl
  | p :: c => by rw [short_cons, short_eq_runs c]; rfl
theorem runs_of_red : ∀ {w : List (α × Int)}, Red w → runs w = w
  | [], _ => rfl
  | [p], h => by
    have : p.2 ≠ 0 := h
    simp [runs, stp, this]
  | p :: q :: r, h => by
    have ih := runs_of_red (w := q :: r) h.2.2
    show stp (runs (q :: r)) p = _
    rw [ih]
    have h1 : ¬ q.1 = p.1 := fun t => h.2.1 t.symm
    simp [stp, h1, h.1]
theorem short_short (c : List (α × Int)) : short (short c) = short c := by rw [short_eq_runs (short c), runs_of_red (short_red c)]
theorem stp_len (r : List (α × Int)) (p : α × Int) : (stp r p).length ≤ r.length + 1 := by
  cases r with
  | nil => by_cases z : p.2 = 0 <;> simp [stp, z]
  | cons q r => rw [stp_cons]; unfold hd2; split <;> split <;> simp <;> omega
theorem foldl_len : ∀ (c : List (α × Int)) (r : List (α × Int)), (c.foldl stp r).length ≤ r.length + c.length
  | [], r => by simp
  | p :: c, r => by
    have h1 := foldl_len c (stp r p)
    have h2 := stp_len r p
    simp only [List.foldl_cons, List.length_cons]
    omega
theorem short_len (c : List (α × Int)) : (short c).length ≤ c.length := by
  have := foldl_len c []
  simpa [short, stk] using this
theorem short_mid {A B X Y : List (α × Int)} (h : ∀ r, Red r → X.foldl stp r = Y.foldl stp r) : short (A ++ X ++ B) = short (A ++ Y ++ B) := by
  unfold short stk
  rw [List.foldl_append, List.foldl_append, List.foldl_append, List.foldl_append, h _ (foldl_red A (r := []) trivial)]
theorem mid_back (c : List (α × Int)) : ∀ r : List (α × Int), Red r → (c ++ contr c).foldl stp r = ([] : List (α × Int)).foldl stp r := fun r h => fold_back c h
theorem mid_join (n : α) (u v : Int) : ∀ r : List (α × Int), Red r → [(n, u + v)].foldl stp r = [(n, u), (n, v)].foldl stp r := fun r h => (stp_stp h n u v).symm
end
end NH
namespace L2
open PySem PySem.Spec PyProof.Rows
theorem same_new {H : Hp} {p : Addr} (h : H p = none) (o : HO) : Same H (upd H p o) := fun b u q => by rw [upd_ne (ne_of_none q h)]; exact q
theorem Same.tup {K : PySem.W.Frag} {H H' : Hp} {a : Addr} {xs : List V} (e : Same H H') (h : SqT K H a xs) : SqT K H' a xs := by
  rcases h with (h | ⟨o, h⟩) | h
  · exact .inl (.inl (e _ _ h))
  · exact .inl (.inr ⟨o, e _ _ h⟩)
  · exact .inr h
noncomputable def SameBut (l : Addr) (H H' : Hp) : Prop := ∀ b o, b ≠ l → H b = some o → H' b = some o
theorem SameBut.trans {H H1 H2 : Hp} {l : Addr} (a : SameBut l H H1) (b : SameBut l H1 H2) : SameBut l H H2 := fun c o hc q => b c o hc (a c o hc q)
mutual
inductive DOf (K : PySem.W.Frag) (H : Hp) : V → PyData → Prop
  | non : DOf K H .non .none
  | bl (b : Bool) : DOf K H (.bl b) (.bool b)
  | int (i : Int) : DOf K H (.int i) (.int i)
  | str (x : Str) : DOf K H (.str x) (.str x)
  | lst {a : Addr} {xs : List V} {ds : List PyData} : SqL K H a xs → DAll K H xs ds → DOf K H (.ref a) (.list ds)
  | tup {a : Addr} {xs : List V} {ds : List PyData} : SqT K H a xs → DAll K H xs ds → DOf K H (.ref a) (.tuple ds)
inductive DAll (K : PySem.W.Frag) (H : Hp) : List V → List PyData → Prop
  | nil : DAll K H [] []
  | cons {x : V} {xs : List V} {d : PyData} {ds : List PyData} : DOf K H x d → DAll K H xs ds → DAll K H (x :: xs) (d :: ds)
end
section
variable {X : Cx} {pins : List (Addr × Obj)} {σ : St} {H : Hp} {s : Shared}
mutual
theorem DOf.reads (I : Inv X pins σ H s) : ∀ {x : V} {d : PyData} {u : Value}, DOf X.K H x d → RelV x u → ∃ as, Reads s.heap u d as
  | _, _, _, .non, r => by cases r; exact ⟨_, Reads.none⟩
  | _, _, _, .bl b, r => by cases r; exact ⟨_, Reads.bool b⟩
  | _, _, _, .int i, r => by obtain ⟨t, rfl⟩ := r; exact ⟨_, Reads.int i t⟩
  | _, _, _, .str x, r => by obtain ⟨t, rfl⟩ := r; exact ⟨_, Reads.str x t⟩
  | _, _, _, .lst hq ha, r => by
    cases r
    obtain ⟨its, rv, ⟨o, n, e, c, _, d⟩, _⟩ := I.list hq
    obtain ⟨as, q⟩ := DAll.reads I ha rv
    exact ⟨_, reads_list_at e c d (by simpa using q)⟩
  | _, _, _, .tup hq ha, r => by
    cases r
    obtain ⟨its, rv, ⟨o, e, c, n, d⟩, _⟩ := I.tuple hq
    obtain ⟨as, q⟩ := DAll.reads I ha rv
    exact ⟨_, reads_tuple_at e c d (by simpa using q)⟩
theorem DAll.reads (I : Inv X pins σ H s) : ∀ {xs : List V} {ds : List PyData} {us : List Value}, DAll X.K H xs ds → Vals xs us → ∃ as, ReadsAll s.heap us ds as
  | _, _, _, .nil, .nil => ⟨_, ReadsAll.nil⟩
  | _, _, _, .cons h t, .cons r rt => by
    obtain ⟨as, q⟩ := DOf.reads I h r
    obtain ⟨bs, p⟩ := DAll.reads I t rt
    exact ⟨_, ReadsAll.cons q p⟩
end
end
noncomputable def rEqD (K : PySem.W.Frag) : R2 := fun x y H Q => ∃ d e, DOf K H x d ∧ DOf K H y e ∧ SeqAt.shaped d = true ∧ SeqAt.shaped e = true ∧ Q (.bl (PyData.eqv d e)) H
noncomputable def rNeD (K : PySem.W.Frag) : R2 := fun x y H Q => ∃ d e, DOf K H x d ∧ DOf K H y e ∧ SeqAt.shaped d = true ∧ SeqAt.shaped e = true ∧ Q (.bl (!PyData.eqv d e)) H
theorem op_eqD {X : Cx} (hu : X.A.units + 64 < cLine) : OpR X (compareOp .Eq) (rEqD X.K) := by
  intro pins s σ H x y v u Q I rx ry h
  obtain ⟨d, e, hd, he, s1, s2, q⟩ := h
  obtain ⟨as, ra⟩ := hd.reads I rx
  obtain ⟨bs, rb⟩ := he.reads I ry
  exact eq_dataH ra rb s1 s2 hu ⟨.bl _, H, I, rfl, q⟩
theorem op_neD {X : Cx} (hu : X.A.units + 64 < cLine) : OpR X (compareOp .NotEq) (rNeD X.K) := by
  intro pins s σ H x y v u Q I rx ry h
  obtain ⟨d, e, hd, he, s1, s2, q⟩ := h
  obtain ⟨as, ra⟩ := hd.reads I rx
  obtain ⟨bs, rb⟩ := he.reads I ry
  exact ne_dataH ra rb s1 s2 hu ⟨.bl _, H, I, rfl, q⟩
noncomputable def Itv (K : PySem.W.Frag) (a : Addr) (xs : List V) : It :=
  ⟨fun i H => SqL K H a xs ∧ i < xs.length, fun i H x H' => H' = H ∧ xs.reverse[i]? = some x, fun i H => SqL K H a xs ∧ i = xs.length⟩
theorem turn_rev {P : Program} {w : World} {K : PySem.W.Frag} {tg : Expr} (a it : Addr) (xs : List V) : Turn P w K tg (Itv K a xs) [it] it (fun i h => h.IsRevIter it a ((xs.length : Int) - 1 - (i : Int))) where
  mem := by simp
  obj := fun i h st b hb => by
    have e : b = it := by simpa using hb
    subst e
    obtain ⟨o, e, c, d⟩ := st
    exact ⟨o, e, fun v z => by rw [d] at z; cases z⟩
  keep := fun i h h' st k => st.at fun o e => k it (by simp) o e
  item := by
    intro X hP hw hK hc i pins s σ H E I hf st hg
    subst hP hw hK
    obtain ⟨hq, hx⟩ := hg
    obtain ⟨its, rv, p, hz⟩ := I.list hq
    have hlen := rv.length
    have e0 : (xs.length : Int) - 1 - (i : Int) = ((xs.length - 1 - i : Nat) : Int) := by omega
    have hget : xs.reverse[i]? = xs[xs.length - 1 - i]? := List.getElem?_reverse hx
    obtain ⟨x, hx'⟩ : ∃ x, xs[xs.length - 1 - i]? = some x := ⟨xs[xs.length - 1 - i]'(by omega), List.getElem?_eq_getElem (by omega)⟩
    obtain ⟨u, hu, ru⟩ := rv.get hx'
    obtain ⟨f0, f1, f2, f3, f4, f5⟩ := hf it (by simp)
    have st1 : s.heap.IsRevIter it a ((xs.length - 1 - i : Nat) : Int) := by rw [← e0]; exact st
    refine wpAny_pyNext_rev_item st1 p.isList (x := u) (by simpa using hu) fun h' st' sb => ?_
    have I1 : Inv X pins σ H { s with heap := h' } := I.turned (t' := s.toks) (fun b o hb e => (sb.2 b hb).trans e) f0 f1 f3 f4 f5
    have e1 : ((xs.length - 1 - i : Nat) : Int) - 1 = (xs.length : Int) - 1 - ((i + 1 : Nat) : Int) := by omega
    have st2 : h'.IsRevIter it a ((xs.length : Int) - 1 - ((i + 1 : Nat) : Int)) := by rw [← e1]; exact st'
    obtain ⟨o, e, c, d⟩ := id st'
    exact ⟨u, rfl, go_of (s := { s with heap := h' }) e c d (by decide) ⟨x, H, I1, ru, ⟨rfl, hget.trans hx'⟩, st2, fun b hb => (hf b hb).1⟩⟩
  done := by
    intro X hP hw hK hc i pins s σ H E I hf st hg
    subst hP hw hK
    obtain ⟨hq, hx⟩ := hg
    obtain ⟨f0, f1, f2, f3, f4, f5⟩ := hf it (by simp)
    have e0 : (xs.length : Int) - 1 - (i : Int) = -1 := by omega
    have st1 : s.heap.IsRevIter it a (-1) := by rw [← e0]; exact st
    exact wpAny_pyNext_rev_end (I.ok.hd hc) st1 fun h' eb => ⟨rfl, I.turned (t' := s.toks) (fun b o hb e => eb b o hb e) f0 f1 f3 f4 f5⟩
  self := fun _ _ _ _ _ st h => wpAny_pyIter_revIter st h
section
variable {X : Cx} {tg : Expr}
noncomputable def iRev (K : PySem.W.Frag) (tl : TA) : TI := fun σ H R => tl σ H fun vs H1 => ∃ a xs, vs = [.ref a] ∧ SqL K H1 a xs ∧ R (Itv K a xs) H1
theorem pi_rev {l : Expr} {tl : TA} {p pos : Pos} (hg : Gl X "reversed") (hm : X.mg "reversed" = none) (ha : PA X [l] tl) (hs : starEach [l] X.env = [(false, eval l X.env)] := by rfl) : PI X tg (.Call (.Name "reversed" p) [l] [] pos) (iRev X.K tl) := by
  intro pins s σ H R I h
  refine Call_ (ld_blt I hg hm boot_reversed (PyProof.Rows.callWith_type1 (thn (ha pos pins s σ H _ I h) fun us s1 ⟨vs, H1, I1, r1, q1⟩ => ?_) hs rfl))
  obtain ⟨a, xs, e, hq, q⟩ := q1
  subst e
  cases r1 with
  | cons r rr =>
    cases rr
    cases r
    obtain ⟨its, rv, p, hz⟩ := I1.list hq
    have hlen := rv.length
    refine call_reversed_list p.isList ?_
    have hit : (s1.heap.push (revObj a (((its.toArray).size : Int) - 1))).IsRevIter s1.heap.objs.size a ((xs.length : Int) - 1 - ((0 : Nat) : Int)) := by
      refine ⟨_, Heap.get?_push_size _ rfl, rfl, ?_⟩
      have e1 : ((its.toArray.size : Nat) : Int) - 1 = (xs.length : Int) - 1 - ((0 : Nat) : Int) := by rw [List.size_toArray]; omega
      show Data.fields #[.ref a, rawInt ((its.toArray.size : Int) - 1)] = _
      rw [e1]
    have I2 : Inv X pins σ H1 { s1 with heap := s1.heap.push (revObj a (((its.toArray).size : Int) - 1)) } := I1.kept (t' := s1.toks) fun b o e => Heap.get?_push_of_some _ e
    refine wpAny_pyIter_revIter hit ?_
    refine ⟨s1.heap.objs.size, [s1.heap.objs.size], _, _, H1, rfl, I2, turn_rev a _ xs, hit, fun b hb => ?_, q⟩
    have e : b = s1.heap.objs.size := by simpa using hb
    subst e
    have f := I1.fpOk (H' := H1) (Nat.le_refl _) (I1.hok.fresh (Nat.le_refl _))
    exact f
end
end L2
namespace L2
open PySem PySem.Spec PyProof.Rows
section
variable {prog : Program} {w : World} {A : Around} {R : Result → Shared → Prop} {s : Shared}
theorem compLoop_gen {elt target iter : Expr} {ifs : List Expr} {scope : Scope} {pos : Pos} {it acc : Value} {env : Env} (I : Nat → Shared → Prop)
    (turn : ∀ n s, I n s → wpAny (model prog w) A (pyNext it) (fun r s₁ => match r with
      | none => R (.ok .next) s₁
      | some v => wpAny (model prog w) A (letOwnedTupleGo target it v) (fun _ s₁' => wpAny (model prog w) A (assign target env v) (fun _ s₂ =>
          wpAny (model prog w) A (forIn ifs true fun c r => if r = true then do let ok ← isTrue c env (eval c env); pure (ForInStep.yield ok) else pure (ForInStep.yield r)) (fun ok s₃ =>
            if ok = true then wpAny (model prog w) A (eval elt env) (fun x s₄ =>
              wpAny (model prog w) A (call (.builtin "list.append") [acc, x]) (fun _ s₅ => ∃ m, m < n ∧ I m s₅) (fun _ _ => False) s₄) (fun _ _ => False) s₃
            else ∃ m, m < n ∧ I m s₃) (fun _ _ => False) s₂) (fun _ _ => False) s₁') (fun _ _ => False) s₁) (fun _ _ => False) s)
    (n : Nat) (h : I n s) :
    codeAny (model prog w) A (.compLoop (.ListComp elt [⟨target, iter, ifs, 0⟩] scope pos) 0 it acc env) R s := by
  refine codeAny_loop rfl I (fun n s hI => ?_) n h
  show wpAny _ A ((compTurn (.ListComp elt [⟨target, iter, ifs, 0⟩] scope pos) 0 it acc env).onRaise (fun x => do noteFrame x env; theTreesLotGoes x)) _ _ s
  refine wpAny_noted ?_
  rw [compTurn_list]
  refine wpAny_bind (wpAny_standAt (wpAny_bind (wpAny_mono (turn n s hI) (fun r s₁ h₁ => ?_) fun _ _ h' => h'.elim)))
  cases r with
  | none => exact wpAny_pure h₁
  | some v =>
    refine wpAny_bind (wpAny_mono h₁ (fun _ s₁' h₁' => ?_) fun _ _ h' => h'.elim)
    refine wpAny_bind (wpAny_mono h₁' (fun _ s₂ h₂ => wpAny_bind (wpAny_mono h₂ (fun ok s₃ h₃ => ?_) fun _ _ h' => h'.elim)) fun _ _ h' => h'.elim)
    cases ok with
    | false => exact wpAny_pure ⟨rfl, h₃⟩
    | true =>
      exact wpAny_bind (wpAny_bind (wpAny_mono h₃ (fun x s₄ h₄ => wpAny_bind (wpAny_mono h₄ (fun _ s₅ h₅ => wpAny_pure (wpAny_pure ⟨rfl, h₅⟩)) fun _ _ h' => h'.elim)) fun _ _ h' => h'.elim))
end
noncomputable def Cx.comp (X : Cx) (sc : Scope) (cl : List (Str × Addr)) (N : List Str) (C : Addr) (s₀ : Shared) (H₀ : Hp) (fp : List Addr) : Cx :=
  ⟨X.prog, X.w, X.K, X.mg, X.base, X.A, N, s₀, H₀, ⟨sc, C, X.env.globals, cl, X.env.qual, none, X.env.code, X.env.frame, X.env.builtins⟩, X.stack, X.stack, fp, fun _ => false, X.calm, [], fun _ _ => False⟩
noncomputable def PTs (X : Cx) (ifs : List Expr) (t : TT) : Prop :=
  ∀ (pins : List (Addr × Obj)) (s : Shared) (σ : St) (H : Hp) (Q : Bool → Hp → Prop), Inv X pins σ H s → t σ H Q →
    wpAny (model X.prog X.w) X.A (forIn ifs true fun c r => if r = true then do let ok ← isTrue c X.env (eval c X.env); pure (ForInStep.yield ok) else pure (ForInStep.yield r)) (TP X pins σ Q) X.xe s
noncomputable def tYes : TT := fun _ H Q => Q true H
theorem pts_nil {X : Cx} : PTs X [] tYes := fun _ _ _ H _ I h => wpAny_tests_nil ⟨H, I, h⟩
theorem pts_one {X : Cx} {c : Expr} {t : TT} (h : PT X c t) : PTs X [c] t := fun pins s σ H Q I q => wpAny_tests_one (h pins s σ H Q I q)
noncomputable def slots (js : List (Option Nat)) (σ : St) : St := js.map fun j => j.bind fun j => (σ[j]?).join
noncomputable def tComp (js : List (Option Nat)) (wi : TI) (g : TG) (tt : TT) (te : TE) : TE := fun σ H Q => wi σ H fun J H1 => ∀ l, H1 l = none → ∃ W : Nat → Nat → St → Hp → Prop, (∃ m, W 0 m (slots js σ) (upd H1 l (.lst []))) ∧
  ∀ i m σ' H', W i m σ' H' → (J.stop i H' ∧ Q (.ref l) H') ∨ (J.go i H' ∧ ∃ N : St → Hp → Prop, (∀ σ' H', N σ' H' → ∃ m', m' < m ∧ W (i + 1) m' σ' H') ∧ ∀ x H2, J.yld i H' x H2 → g x σ' H2 fun σ3 H3 => tt σ3 H3 fun b H4 =>
    if b = true then te σ3 H4 fun y H5 => ∃ ys, H5 l = some (.lst ys) ∧ ys.length < sizeLine ∧ N σ3 (upd H5 l (.lst (ys ++ [y]))) else N σ3 H4)
section
variable {X : Cx} {elt target iter : Expr} {ifs : List Expr} {scope sc : Scope} {cl : List (Str × Addr)} {N : List Str} {pos : Pos} {wi : TI} {g : TG} {tt : TT} {te : TE} {js : List (Option Nat)}
structure CompOk (X : Cx) (scope sc : Scope) (cl : List (Str × Addr)) (N : List Str) (js : List (Option Nat)) : Prop where
  clos : closureFor scope X.env = pure cl
  rel : relabel scope X.env = sc
  nocell : ∀ y ∈ scope.names, y.2 ≠ .cell
  kind : scope.kind = .function
  names : ∀ y ∈ scope.names, y.2 = .local → scope.names.lookup y.1 = some .local
  same : ∀ x c, cl.lookup x = some c → X.env.cells.lookup x = some c
  has : ∀ x, (sc.names.lookup x = some .cell ∨ sc.names.lookup x = some .free) → ∃ c, cl.lookup x = some c
  len : js.length = N.length
  from_ : ∀ (i j : Nat), js[i]? = some (some j) → ∃ x, N[i]? = some x ∧ X.N[j]? = some x ∧ (sc.names.lookup x = some .cell ∨ sc.names.lookup x = some .free) ∧ (X.env.kindOf x = some .cell ∨ X.env.kindOf x = some .free)
theorem comp_gen {use : Option (Value → Sem Unit)} {Qv : Value → Shared → Prop} (K : CompOk X scope sc cl N js) (hc : X.calm = true) (hi : PI X target iter wi)
    (hgg : ∀ C s₀ H₀ fp, PG (X.comp sc cl N C s₀ H₀ fp) target g) (htt : ∀ C s₀ H₀ fp, PTs (X.comp sc cl N C s₀ H₀ fp) ifs tt) (hee : ∀ C s₀ H₀ fp, PE (X.comp sc cl N C s₀ H₀ fp) elt te)
    (hs : ∀ x, foldedSetIterable iter X.env x = pure x) (pins : List (Addr × Obj)) (s : Shared) (σ : St) (H : Hp) (Q : VK) (I : Inv X pins σ H s) (h : tComp js wi g tt te σ H Q)
    (hend : ∀ (D C : Addr) (H4 : Hp) (s5 : Shared) (m : Str → Option Value), Inv X pins σ H4 s5 → s5.heap.Ns C m → H4 C = none → C ≠ X.env.locals → C ∉ X.fs → X.s₀.heap.objs.size ≤ C → (∀ x c, X.env.cells.lookup x = some c → c ≠ C) → (∀ p ∈ X.pn ++ pins, p.1 ≠ C) → Q (.ref D) H4 →
      compPost (model X.prog X.w) X.A X.xe use Qv (.ref D) C (.ok .next) s5) :
    wpAny (model X.prog X.w) X.A (comprehension (.ListComp elt [⟨target, iter, ifs, 0⟩] scope pos) scope X.env (firstIterPos [⟨target, iter, ifs, 0⟩] pos) (newList []) false (firstIter [⟨target, iter, ifs, 0⟩] X.env) use) Qv X.xe s := by
  refine wpAny_comprehension_free (use := use) rfl hs K.clos K.kind K.names (thn (hi pins s σ H _ I h) fun v s1 h1 => thn h1 fun itv s2 h2 => ?_)
  obtain ⟨it, fp, tn, J, H2, e, I2, T, st2, f2, R⟩ := h2
  subst e
  refine wpAny_newObj_type (wpAny_newFunctionEnv K.nocell (by intro y hy; simp at hy) (fun h₁ hns₁ hsb₁ => ?_) K.kind)
  dsimp only at hns₁ hsb₁ ⊢
  have I3 : Inv X pins σ (upd H2 s2.heap.objs.size (.lst [])) { s2 with heap := s2.heap.push { cls := .type "list", dict := none, data := .seq ([] : List Value).toArray } } :=
    I2.lnew (t' := s2.toks) (its := []) .nil (Nat.zero_le _)
  obtain ⟨W, ⟨m0, w0⟩, turn⟩ := R s2.heap.objs.size (I2.hok.fresh (Nat.le_refl _))
  generalize hP : s2.heap.push { cls := .type "list", dict := none, data := .seq ([] : List Value).toArray } = h3 at hns₁ hsb₁ I3 ⊢
  generalize hD : s2.heap.objs.size = D at w0 turn I3 ⊢
  have hsz3 : h3.objs.size = D + 1 := by rw [← hP, Heap.size_push, hD]
  have old3 : ∀ b o, s2.heap.get? b = some o → h3.get? b = some o := fun b o e => by rw [← hP]; exact Heap.get?_push_of_some _ e
  have old : ∀ b o, h3.get? b = some o → h₁.get? b = some o := fun b o e => hsb₁.extBut b o (Nat.ne_of_lt (Heap.lt_size e)) (Heap.get?_push_of_some _ e)
  have fpD : ∀ b ∈ fp, b < D := fun b hb => by
    obtain ⟨o, e, _⟩ := T.obj _ _ st2 b hb
    rw [← hD]; exact Heap.lt_size e
  have frD : ∀ b ∈ fp, (upd H2 D (.lst [])) b = none := fun b hb => by rw [upd_ne (Nat.ne_of_lt (fpD b hb))]; exact (f2 b hb).1
  have f3 : ∀ b ∈ fp, FpOk X pins (upd H2 D (.lst [])) b := fun b hb => ⟨frD b hb, (f2 b hb).2⟩
  have Hfresh : ∀ a, h3.objs.size ≤ a → (upd H2 D (.lst [])) a = none := fun a ha => I3.hok.fresh ha
  have cellC : ∀ x c, X.env.cells.lookup x = some c → c < h3.objs.size := fun x c e => by
    obtain ⟨v, q⟩ := I3.cell x c e
    exact q.lt
  have YOk : (X.comp sc cl N h3.objs.size { s2 with heap := h3 } (upd H2 D (.lst [])) fp).Ok := by
    refine ⟨I3.ok.mod, ?_, I3.ok.glob, I3.ok.blt, Nat.le_refl _, fun x y c e1 e2 => I3.ok.inj x y c (K.same x c e1) (K.same y c e2), fun x hx => K.has x hx, fun x c hf _ => absurd hf (by intro z; cases z), I3.ok.hd, I3.ok.frames, .inl rfl, fun b hb => ⟨?_, fun x c e => (f2 b hb).2.2.2.2.1 x c (K.same x c e)⟩,
      I3.bs, Nat.le_trans I3.ok.bsz I3.sz, fun b o e hb => ?_, fun b hb hm => ?_, I3.stack, I3.stkFree⟩
    · rw [← K.rel]; exact K.kind
    · exact Nat.ne_of_lt (by rw [hsz3]; exact Nat.lt_succ_of_lt (fpD b hb))
    · rcases (f2 b hb).2.2.2.1 with z | z
      · exact I3.ok.noex b o e z
      · exact absurd (Nat.lt_of_lt_of_le (Heap.lt_size (I3.ok.bs b o e).1) z) (Nat.lt_irrefl _)
    · rcases List.mem_cons.mp (I3.stkSub b hm) with z | z
      · exact (f2 b hb).2.1 z
      · exact (f2 b hb).2.2.1 z
  have IY : Inv (X.comp sc cl N h3.objs.size { s2 with heap := h3 } (upd H2 D (.lst [])) fp) [] (slots js σ) (upd H2 D (.lst [])) { s2 with heap := h₁, toks := s2.toks + ([] : List (Str × Value)).length } := by
    refine ⟨YOk, rfl, I3.bare, Un.kept old, ⟨_, hns₁, fun i x v e1 e2 e3 => ?_⟩, fun x c e => ?_, Hfresh _ (Nat.le_refl _), fun x c e => I3.freeC x c (K.same x c e), fun p hp => absurd (show p ∈ ([] : List (Addr × Obj)) from hp) (by simp), I3.hok.kept old, ?_⟩
    · unfold slots at e2
      rw [List.getElem?_map] at e2
      cases ej : js[i]? with
      | none => rw [ej] at e2; cases e2
      | some jo =>
        rw [ej] at e2
        cases jo with
        | none => cases e2
        | some j =>
          obtain ⟨y, n1, n2, k1, k2⟩ := K.from_ i j ej
          have exy : y = x := Option.some.inj (n1.symm.trans e1)
          subst exy
          have e2' : (σ[j]?).join = some v := Option.some.inj e2
          have e4 : σ[j]? = some (some v) := by
            cases es : σ[j]? with
            | none => rw [es] at e2'; cases e2'
            | some w => rw [es] at e2'; exact congrArg some e2'
          obtain ⟨m, _, hl⟩ := I3.loc
          obtain ⟨u, ru, lk⟩ := hl j y v n2 e4 (by
            rcases k2 with z | z
            · exact .inr (.inl z)
            · exact .inr (.inr z))
          refine ⟨u, ru, .inr ⟨k1, ?_⟩⟩
          obtain ⟨c, hcl⟩ := K.has y k1
          refine ⟨c, hcl, ?_⟩
          rcases lk with ⟨z, _⟩ | ⟨_, c', e5, ic⟩
          · rcases k2 with q | q
            · rw [q] at z; cases z
            · rw [q] at z; cases z
          · have : c' = c := Option.some.inj (e5.symm.trans (K.same y c hcl))
            subst this
            obtain ⟨o, ho, hd⟩ := ic
            exact ⟨o, old _ _ ho, hd⟩
    · obtain ⟨v, o, ho, hd⟩ := I3.cell x c (K.same x c e)
      exact ⟨v, o, old _ _ ho, hd⟩
    · unfold slots; rw [List.length_map]; exact K.len
  have loop : ∀ s₃ : Shared, s₃ = { s2 with heap := h₁, toks := s2.toks + ([] : List (Str × Value)).length } →
      codeAny (model X.prog X.w) X.A (.compLoop (.ListComp elt [⟨target, iter, ifs, 0⟩] scope pos) 0 (.ref it) (.ref D) (X.comp sc cl N h3.objs.size { s2 with heap := h3 } (upd H2 D (.lst [])) fp).env)
        (compPost (model X.prog X.w) X.A X.xe use Qv (.ref D) h3.objs.size) s₃ := by
    rintro s₃ rfl
    refine compLoop_gen (fun n s' => ∃ i σ' H', Inv (X.comp sc cl N h3.objs.size { s2 with heap := h3 } (upd H2 D (.lst [])) fp) [] σ' H' s' ∧ tn i s'.heap ∧ (∀ b ∈ fp, H' b = none) ∧ W i n σ' H') ?_ m0
      ⟨0, _, _, IY, T.keep _ _ _ st2 (fun b hb o e => old b o (old3 b o e)), frD, w0⟩
    rintro n s4 ⟨i, σ4, H4, I4, st4, fr4, w4⟩
    have ff : ∀ {H' : Hp}, (∀ b ∈ fp, H' b = none) → ∀ b ∈ fp, FpOk (X.comp sc cl N h3.objs.size { s2 with heap := h3 } (upd H2 D (.lst [])) fp) [] H' b := fun hn b hb =>
      ⟨hn b hb, (YOk.exf b hb).1, YOk.exfs b hb, .inl hb, (YOk.exf b hb).2, fun p hp => absurd (show p ∈ ([] : List (Addr × Obj)) from hp) (by simp)⟩
    have hg := hgg h3.objs.size { s2 with heap := h3 } (upd H2 D (.lst [])) fp
    have ht := htt h3.objs.size { s2 with heap := h3 } (upd H2 D (.lst [])) fp
    have he := hee h3.objs.size { s2 with heap := h3 } (upd H2 D (.lst [])) fp
    rcases turn i n σ4 H4 w4 with ⟨stop, qn⟩ | ⟨go, Nx, hN, step⟩
    · refine thn (T.done (X.comp sc cl N h3.objs.size { s2 with heap := h3 } (upd H2 D (.lst [])) fp) rfl rfl rfl hc i [] s4 σ4 H4 _ I4 (ff fr4) st4 stop) fun r s5 ⟨hr, I5⟩ => ?_
      subst hr
      obtain ⟨m, hn, _⟩ := I5.loc
      have IX : Inv X pins σ H4 s5 := I3.call' (ch := fp) I5.os I5.base I5.hok I5.bare fun b hb => ⟨(f3 b hb).2.2.2.1, (f3 b hb).2.1, (f3 b hb).2.2.2.2.1, (f3 b hb).2.2.2.2.2⟩
      exact hend D h3.objs.size H4 s5 m IX hn I5.free (Ne.symm (Nat.ne_of_lt I3.lt)) (I3.nofs (Nat.le_refl _)) I3.sz (fun x c e => Nat.ne_of_lt (cellC x c e)) (fun p hp => Nat.ne_of_lt (Heap.lt_size (I3.pin p hp).1)) qn
    · refine thn (T.item (X.comp sc cl N h3.objs.size { s2 with heap := h3 } (upd H2 D (.lst [])) fp) rfl rfl rfl hc i [] s4 σ4 H4 _ I4 (ff fr4) st4 go) fun r s5 ⟨u, hr, h5⟩ => ?_
      subst hr
      refine thn h5 fun _ s6 ⟨x, H6, I6, r6, y6, st6, fr6⟩ => ?_
      have I6' := I6.pinned (ff fr6) (T.obj _ _ st6)
      have back : ∀ {σ7 : St} {H7 : Hp} {s7 : Shared}, Inv (X.comp sc cl N h3.objs.size { s2 with heap := h3 } (upd H2 D (.lst [])) fp) ([] ++ pinsAt fp s6.heap) σ7 H7 s7 →
          Inv (X.comp sc cl N h3.objs.size { s2 with heap := h3 } (upd H2 D (.lst [])) fp) [] σ7 H7 s7 ∧ tn (i + 1) s7.heap ∧ ∀ b ∈ fp, H7 b = none := fun {σ7 H7 s7} I7 =>
        ⟨I7.unpinned, T.keep _ _ _ st6 fun b hb o e => (I7.pin (b, o) (List.mem_append_right _ (List.mem_append_right _ (mem_pinsAt hb e)))).1, fun b hb => by
          obtain ⟨o, e, d⟩ := T.obj _ _ st6 b hb
          exact (I7.pin (b, o) (List.mem_append_right _ (List.mem_append_right _ (mem_pinsAt hb e)))).2.1⟩
      refine thn (hg _ s6 σ4 H6 x u _ I6' r6 (step x H6 y6)) fun _ s7 ⟨σ7, H7, I7, q7⟩ => ?_
      refine thn (ht _ s7 σ7 H7 _ I7 q7) fun b s8 ⟨H8, I8, q8⟩ => ?_
      cases b with
      | false =>
        obtain ⟨m', hm, w8⟩ := hN σ7 H8 q8
        obtain ⟨J1, J2, J3⟩ := back I8
        exact ⟨m', hm, i + 1, σ7, H8, J1, J2, J3, w8⟩
      | true =>
        refine thn (he _ s8 σ7 H8 _ I8 q8) fun yv s9 ⟨y, H9, I9, r9, ys, hl, hz, n9⟩ => ?_
        obtain ⟨m', hm, w9⟩ := hN _ _ n9
        refine thn (mt_append _ s9 σ7 H9 (.ref D) [y] (.ref D) [yv] (fun v H' => v = .non ∧ H' = upd H9 D (.lst (ys ++ [y]))) I9 rfl (.cons r9 .nil) ⟨D, ys, y, rfl, rfl, hl, hz, rfl, rfl⟩) fun _ sA ⟨_, HA, IA, _, _, eA⟩ => ?_
        subst eA
        obtain ⟨J1, J2, J3⟩ := back IA
        exact ⟨m', hm, i + 1, σ7, _, J1, J2, J3, w9⟩
  rw [K.rel]
  exact codeAny_compStart_list (loop _ rfl) (T.self _ 0 _ _ _ (T.keep _ _ _ st2 (fun b hb o e => old b o (old3 b o e))) (loop _ rfl))
theorem pe_comp (K : CompOk X scope sc cl N js) (hc : X.calm = true) (hi : PI X target iter wi)
    (hgg : ∀ C s₀ H₀ fp, PG (X.comp sc cl N C s₀ H₀ fp) target g) (htt : ∀ C s₀ H₀ fp, PTs (X.comp sc cl N C s₀ H₀ fp) ifs tt) (hee : ∀ C s₀ H₀ fp, PE (X.comp sc cl N C s₀ H₀ fp) elt te)
    (hs : ∀ x, foldedSetIterable iter X.env x = pure x := by intro _; rfl) : PE X (.ListComp elt [⟨target, iter, ifs, 0⟩] scope pos) (tComp js wi g tt te) := by
  intro pins s σ H Q I h
  rw [eval_ListComp]
  refine comp_gen (use := none) K hc hi hgg htt hee hs pins s σ H Q I h fun D C H4 s5 m IX hn fC nL _ sz nc np qn => ?_
  exact ⟨m, hn, fun h' hs' => ⟨.ref D, H4, IX.turned (t' := s5.toks) (it := C) (fun b o hb e => (hs'.2 b hb).trans e) fC nL (.inr sz) nc np, rfl, qn⟩⟩
theorem ps_comp {x : Str} {px spos : Pos} {gx : TG} (K : CompOk X scope sc cl N js) (hc : X.calm = true) (hx : PG X (.Name x px) gx) (hi : PI X target iter wi)
    (hgg : ∀ C s₀ H₀ fp, PG (X.comp sc cl N C s₀ H₀ fp) target g) (htt : ∀ C s₀ H₀ fp, PTs (X.comp sc cl N C s₀ H₀ fp) ifs tt) (hee : ∀ C s₀ H₀ fp, PE (X.comp sc cl N C s₀ H₀ fp) elt te)
    (hs : ∀ x, foldedSetIterable iter X.env x = pure x := by intro _; rfl) (hsw : swapsWith (.ListComp elt [⟨target, iter, ifs, 0⟩] scope pos) (some (.Name x px)) spos.line X.env = pure true := by rfl) :
    PS X (.Assign [.Name x px] (.ListComp elt [⟨target, iter, ifs, 0⟩] scope pos) spos) (tAsg (tComp js wi g tt te) gx) := by
  intro pins s σ H D I h
  rw [exec_Assign_Name_used _ _ _ _ hsw]
  refine wpAny_bind (wpAny_standAt (wpAny_bind ?_))
  show wpAny _ _ (comprehension (.ListComp elt [⟨target, iter, ifs, 0⟩] scope pos) scope X.env (firstIterPos [⟨target, iter, ifs, 0⟩] pos) (newList []) false (firstIter [⟨target, iter, ifs, 0⟩] X.env) (some (assign (.Name x px) X.env)) >>= fun _ => pure ()) _ _ _
  refine wpAny_bind (wpAny_mono (comp_gen (use := some (assign (.Name x px) X.env)) (Qv := fun _ s' => ∃ σ' H', Inv X pins σ' H' s' ∧ D.nx σ' H') K hc hi hgg htt hee hs pins s σ H _ I h fun Dd C H4 s5 m IX hn fC nL nF sz nc np qn => ?_) (fun _ s' ⟨σ', H', I', q'⟩ => wpAny_pure (wpAny_pure ⟨σ', H', I', q'⟩)) fun _ _ e => e)
  obtain ⟨o, es, ep, ho, hd, r⟩ := hn
  have IP : Inv X ((C, o) :: pins) σ H4 s5 := IX.pins_of fun p hp => (List.mem_cons.mp hp).elim (fun z => by subst z; exact ⟨ho, fC, nL, nF, fun v z => by rw [hd] at z; cases z⟩) fun z => IX.pin p (List.mem_append_right _ z)
  refine wpAny_mono (hx ((C, o) :: pins) s5 σ H4 (.ref Dd) (.ref Dd) D.nx IP rfl qn) (fun _ s6 ⟨σ6, H6, I6, q6⟩ => ?_) fun _ _ e => e
  obtain ⟨p1, p2, _⟩ := I6.pin (C, o) (List.mem_append_right _ (List.mem_cons_self ..))
  have I7 : Inv X pins σ6 H6 s6 := I6.pins_of fun p hp => I6.pin p (List.mem_append_right _ (List.mem_cons_of_mem _ hp))
  exact ⟨m, ⟨o, es, ep, p1, hd, r⟩, fun h' hs' => ⟨σ6, H6, I7.turned (t' := s6.toks) (it := C) (fun b o hb e => (hs'.2 b hb).trans e) p2 nL (.inr sz) nc np, q6⟩⟩
end
end L2
namespace L2
open PySem PySem.Spec PyProof.Rows
theorem compClosed {X : Cx} {scope : Scope} {N : List Str} {js : List (Option Nat)} (hf : ∀ x ∈ scope.names, x.2 ≠ .free := by decide +kernel) (hcell : ∀ x ∈ scope.names, x.2 ≠ .cell := by decide +kernel)
    (hk : scope.kind = .function := by rfl) (hn : ∀ y ∈ scope.names, y.2 = .local → scope.names.lookup y.1 = some .local := by decide +kernel) (hl : js.length = N.length := by rfl) (hj : ∀ j ∈ js, j = none := by decide) : CompOk X scope scope [] N js where
  clos := closureFor_none hf
  rel := by
    unfold relabel
    have e : (scope.names.map fun (x : Str × NameKind) => match x with | (n, k) => if (k == .free && X.env.scope.kind == .function && X.env.kindOf n == some .cell) then (n, NameKind.cell) else (n, k)) = scope.names := by
      refine map_eq_self fun x hx => ?_
      obtain ⟨n, k⟩ := x
      have : (k == NameKind.free) = false := by simpa using hf _ hx
      simp [this]
    rw [e]
  nocell := hcell
  kind := hk
  names := hn
  same := fun x c e => by simp at e
  has := fun x h => by
    rcases h with h | h
    · exact absurd rfl (hcell _ (PySem.mem_of_lookup h))
    · exact absurd rfl (hf _ (PySem.mem_of_lookup h))
  len := hl
  from_ := fun i j h => by
    have := hj _ (List.mem_of_getElem? h)
    cases this
structure Own (P : Program) (w : World) (K : PySem.W.Frag) (mg : Str → Option Value) (base : Heap) (k : Nat) (x : Str) (ps : List Str) (sp : Sp) : Prop where
  ex : ∃ (f : Addr) (fd : FuncData), FnOk P w K mg base CX0 k f fd ps sp ∧ Binds K fd ps [] ∧ mg x = some (.ref f) ∧ PySem.W.keepIn K (.ref f) = true
theorem pe_own {X : Cx} {k : Nat} {x : Str} {ps : List Str} {sp : Sp} {p pos : Pos} {e : Expr} {es : List Expr} {t : TA} (D : Own X.prog X.w X.K X.mg X.base k x ps sp) (hr : Room k X.A) (hg : Gl X x) (ha : PA X (e :: es) t)
    (hdb : (x == ("__debug__" : Str)) = false := by decide) (he : starEach (e :: es) X.env = (false, eval e X.env) :: starEach es X.env := by rfl) (hpl : (backTo pos (starEach es X.env)).any (·.1) = false := by rfl) :
    PE X (.Call (.Name x p) (e :: es) [] pos) (tCall sp [] E0 t) := by
  obtain ⟨f, fd, F, b, m, kp⟩ := D.ex
  exact pe_call F hr hg m kp b .nil pass0 ha hdb he hpl
structure Def (K : PySem.W.Frag) (mg : Str → Option Value) (x : Str) (st : Stmt) (ps : List Str) : Prop where
  ex : ∃ (f : Addr) (fd : FuncData), Fun K x x st f fd ∧ mg x = some (.ref f) ∧ Binds K fd ps []
theorem Def.own {P : Program} {w : World} {K : PySem.W.Frag} {mg : Str → Option Value} {base : Heap} {x : Str} {st : Stmt} {N ps : List Str} {k : Nat} {sp : Sp} (D : Def K mg x st ps) (S : FnScope N ps (defScope st))
    (len : ∀ vs H Q E, sp vs H Q E → vs.length = ps.length)
    (hbody : ∀ (f : Addr) (cdv : Value) (A : Around) (outer : List Env) (s : Shared) (H : Hp) (vs : List V) (Q : VK) (E : XK), Room k (A.deeper (envOfC x (defScope st) s.heap.objs.size f cdv)) → sp vs H Q E →
      ∃ t, PSs (cxOf CX0 P w K mg base N x (defScope st) f cdv A outer s H E).nox (defBody st) t ∧ t { nx := fun _ H' => Q .non H', rt := Q } (start N vs) H) : Own P w K mg base (k + 1) x ps sp := by
  obtain ⟨f, fd, F, m, b⟩ := D.ex
  exact ⟨f, fd, F.ok S len (hbody f), b, m, F.kp⟩
theorem def_mk {K : PySem.W.Frag} {h : Heap} {mg : Str → Option Value} {x : Str} {st : Stmt} {ps : List Str} {f : Addr} {oc : Value} {od an : Option Addr} {osl : Array (Option Value)} {kV doc pm cdv ct : Value} (X : K.In h) (G : h.Ns mainGlobals mg)
    (a : PySem.W.nsIn K mainGlobals x = some (some (.ref f))) (l : K.lookup f = some ⟨oc, od, .func (PySem.W.fnOf x x (defArgs st) (defBody st) (defScope st) .none kV doc pm an cdv ct), osl⟩)
    (c : PySem.W.codeIn K cdv x = true) (k : PySem.W.keepIn K (.ref f) = true)
    (b : ∀ (kV doc pm : Value) (an : Option Addr) (cdv ct : Value) (us : List Value), us.length = ps.length → bindArgs (PySem.W.fnOf x x (defArgs st) (defBody st) (defScope st) .none kV doc pm an cdv ct) ⟨us, []⟩ = pure (ps.zip us)) : Def K mg x st ps :=
  ⟨f, _, fun_mk l c k, PySem.W.mg_of X G a, (fun_mk (st := st) l c k).binds b⟩
end L2
namespace Nh
open PySem L2
section
variable {α β : Type} {F : α → β → Prop}
theorem pr_append : ∀ {a : List α} {b : List β} {c : List α} {d : List β}, Paired F a b → Paired F c d → Paired F (a ++ c) (b ++ d)
  | _, _, _, _, .nil, s => s
  | _, _, _, _, .cons r t, s => .cons r (pr_append t s)
theorem pr_take : ∀ {a : List α} {b : List β} (n : Nat), Paired F a b → Paired F (a.take n) (b.take n)
  | _, _, 0, _ => .nil
  | _, _, _ + 1, .nil => .nil
  | _, _, n + 1, .cons r t => .cons r (pr_take n t)
theorem pr_drop : ∀ {a : List α} {b : List β} (n : Nat), Paired F a b → Paired F (a.drop n) (b.drop n)
  | _, _, 0, r => r
  | _, _, _ + 1, .nil => .nil
  | _, _, n + 1, .cons _ t => pr_drop n t
theorem pr_reverse : ∀ {a : List α} {b : List β}, Paired F a b → Paired F a.reverse b.reverse
  | _, _, .nil => .nil
  | _, _, .cons r t => by
    rw [List.reverse_cons, List.reverse_cons]
    exact pr_append (pr_reverse t) (.cons r .nil)
theorem pr_get' : ∀ {a : List α} {b : List β} {i : Nat} {y : β}, Paired F a b → b[i]? = some y → ∃ x, a[i]? = some x ∧ F x y
  | _, _, _, _, .nil, e => by simp at e
  | _, _, 0, _, .cons r _, e => by simp at e; subst e; exact ⟨_, rfl, r⟩
  | _, _, i + 1, x, .cons _ t, e => by
    obtain ⟨u, h1, h2⟩ := pr_get' (i := i) (y := x) t (by simpa using e)
    exact ⟨u, by simpa using h1, h2⟩
theorem pr_rep {a : List α} {b : List β} (h : Paired F a b) : ∀ k : Nat, Paired F (List.replicate k a).flatten (List.replicate k b).flatten
  | 0 => .nil
  | k + 1 => by
    rw [List.replicate_succ, List.replicate_succ, List.flatten_cons, List.flatten_cons]
    exact pr_append h (pr_rep h k)
end
noncomputable abbrev Pc := Nat × Int
noncomputable def pcD (p : Pc) : PyData := .tuple [.str ⟨#[p.1]⟩, .int p.2]
noncomputable def cordD (c : List Pc) : PyData := .list (c.map pcD)
noncomputable def NailsOk (c : List Pc) : Prop := ∀ p ∈ c, p.1 < 128
theorem pc_ok {p : Pc} (h : p.1 < 128) : (pcD p).canLay0 = true := by
  have : p.1 < 1114112 := by omega
  simp [pcD, PyData.canLay0, PyData.canLayAll0, PyData.strOk, this]
theorem cord_lay : ∀ {c : List Pc}, NailsOk c → PyData.canLayAll0 (c.map pcD) = true ∧ PyData.depthAll (c.map pcD) ≤ 1
  | [], _ => by simp [PyData.canLayAll0, PyData.depthAll]
  | p :: c, h => by
    have ih := cord_lay (c := c) fun q hq => h q (List.mem_cons_of_mem _ hq)
    have h1 := pc_ok (h p (List.mem_cons_self ..))
    have h2 := ih.2
    simp only [List.map_cons, PyData.canLayAll0, PyData.depthAll, h1, ih.1, Bool.and_self, true_and]
    have h3 : (pcD p).depth = 1 := by simp [pcD, PyData.depth, PyData.depthAll]
    omega
theorem cord_shaped {c : List Pc} (h : NailsOk c) : SeqAt.shaped (cordD c) = true := by
  have q := cord_lay h
  have q2 := q.2
  unfold SeqAt.shaped
  simp only [cordD, PyData.canLay0, PyData.depth, q.1, Bool.true_and]
  exact decide_eq_true (by omega)
theorem pc_eqv (p q : Pc) : PyData.eqv (pcD p) (pcD q) = decide (p = q) := by
  obtain ⟨n, a⟩ := p
  obtain ⟨m, b⟩ := q
  simp only [pcD, PyData.eqv, PyData.eqvAll, Bool.and_true]
  rw [Bool.eq_iff_iff]
  simp
theorem cords_eqv : ∀ c d : List Pc, PyData.eqvAll (c.map pcD) (d.map pcD) = decide (c = d)
  | [], [] => by simp [PyData.eqvAll]
  | [], _ :: _ => by simp [PyData.eqvAll]
  | _ :: _, [] => by simp [PyData.eqvAll]
  | p :: c, q :: d => by
    simp only [List.map_cons, PyData.eqvAll, pc_eqv, cords_eqv c d]
    rw [Bool.eq_iff_iff]
    simp
theorem cord_eqv (c d : List Pc) : PyData.eqv (cordD c) (cordD d) = decide (c = d) := by
  simp only [cordD, PyData.eqv, cords_eqv]
end Nh
namespace PL
open PySem PySem.Spec PyProof.Rows L2 Nh
noncomputable def keyD : Key → PyData
  | .inl i => .int i
  | .inr x => .str x
mutual
inductive Rp (K : PySem.W.Frag) (H : Hp) : V → PyData → Prop
  | non : Rp K H .non .none
  | bl (b : Bool) : Rp K H (.bl b) (.bool b)
  | int (i : Int) : Rp K H (.int i) (.int i)
  | str (x : Str) : Rp K H (.str x) (.str x)
  | lst {a : Addr} {xs : List V} {ds : List PyData} : SqL K H a xs → RpA K H xs ds → Rp K H (.ref a) (.list ds)
  | tup {a : Addr} {xs : List V} {ds : List PyData} : SqT K H a xs → RpA K H xs ds → Rp K H (.ref a) (.tuple ds)
  | dct {a : Addr} {us : List (Key × V)} {kvs : List (PyData × PyData)} : Rd H a (.dK us) → RpK K H us kvs → Rp K H (.ref a) (.dict kvs)
inductive RpA (K : PySem.W.Frag) (H : Hp) : List V → List PyData → Prop
  | nil : RpA K H [] []
  | cons {x : V} {xs : List V} {d : PyData} {ds : List PyData} : Rp K H x d → RpA K H xs ds → RpA K H (x :: xs) (d :: ds)
inductive RpK (K : PySem.W.Frag) (H : Hp) : List (Key × V) → List (PyData × PyData) → Prop
  | nil : RpK K H [] []
  | cons {k : Key} {x : V} {us : List (Key × V)} {d : PyData} {kvs : List (PyData × PyData)} : Rp K H x d → RpK K H us kvs → RpK K H ((k, x) :: us) ((keyD k, d) :: kvs)
end
mutual
noncomputable def flat : PyData → Bool
  | .none => true
  | .bool _ => true
  | .int _ => true
  | .str _ => true
  | .list _ => false
  | .tuple xs => flatA xs
  | .dict _ => false
noncomputable def flatA : List PyData → Bool
  | [] => true
  | d :: ds => flat d && flatA ds
end
noncomputable def coldO : HO → Bool
  | .tup _ => true
  | .frz _ _ => true
  | _ => false
noncomputable def tups (H : Hp) : Hp := fun b => (H b).filter coldO
theorem tups_same (H : Hp) : Same (tups H) H := fun b o h => (Option.filter_eq_some_iff.mp h).1
theorem tups_of {H : Hp} {b : Addr} {o : HO} (h : H b = some o) (c : coldO o = true) : tups H b = some o := Option.filter_eq_some_iff.mpr ⟨h, c⟩
theorem tups_upd {H : Hp} {l : Addr} {xs ys : List V} (h : H l = some (.lst xs)) : tups (upd H l (.lst ys)) = tups H := by
  funext b
  unfold tups
  by_cases e : b = l
  · subst e
    rw [upd_same, h]
    rfl
  · rw [upd_ne e]
section
variable {K : PySem.W.Frag} {H H' : Hp}
theorem sqt_cold {a : Addr} {xs : List V} (h : SqT K H a xs) : SqT K (tups H) a xs := by
  rcases h with (h | ⟨o, h⟩) | h
  · exact .inl (.inl (tups_of h rfl))
  · exact .inl (.inr ⟨o, tups_of h rfl⟩)
  · exact .inr h
theorem rd_same {a : Addr} {u : HO} (s : Same H H') (h : Rd H a u) : Rd H' a u := by
  rcases h with h | ⟨o, h⟩
  · exact .inl (s _ _ h)
  · exact .inr ⟨o, s _ _ h⟩
mutual
theorem Rp.same (s : Same H H') : ∀ {v : V} {d : PyData}, Rp K H v d → Rp K H' v d
  | _, _, .non => .non
  | _, _, .bl b => .bl b
  | _, _, .int i => .int i
  | _, _, .str x => .str x
  | _, _, .lst h r => .lst (s.seq h) (RpA.same s r)
  | _, _, .tup h r => .tup (s.tup h) (RpA.same s r)
  | _, _, .dct h r => .dct (rd_same s h) (RpK.same s r)
theorem RpA.same (s : Same H H') : ∀ {v : List V} {d : List PyData}, RpA K H v d → RpA K H' v d
  | _, _, .nil => .nil
  | _, _, .cons h r => .cons (Rp.same s h) (RpA.same s r)
theorem RpK.same (s : Same H H') : ∀ {v : List (Key × V)} {d : List (PyData × PyData)}, RpK K H v d → RpK K H' v d
  | _, _, .nil => .nil
  | _, _, .cons h r => .cons (Rp.same s h) (RpK.same s r)
end
mutual
theorem Rp.cold : ∀ {v : V} {d : PyData}, Rp K H v d → flat d = true → Rp K (tups H) v d
  | _, _, .non, _ => .non
  | _, _, .bl b, _ => .bl b
  | _, _, .int i, _ => .int i
  | _, _, .str x, _ => .str x
  | _, _, .lst h r, e => by simp [flat] at e
  | _, _, .dct h r, e => by simp [flat] at e
  | _, _, .tup h r, e => .tup (sqt_cold h) (RpA.cold r (by simpa [flat] using e))
theorem RpA.cold : ∀ {v : List V} {d : List PyData}, RpA K H v d → flatA d = true → RpA K (tups H) v d
  | _, _, .nil, _ => .nil
  | _, _, .cons h r, e => by
    simp only [flatA, Bool.and_eq_true] at e
    exact .cons (Rp.cold h e.1) (RpA.cold r e.2)
end
mutual
theorem Rp.dof' : ∀ {v : V} {d : PyData}, Rp K H v d → d.canLay0 = true → DOf K H v d
  | _, _, .non, _ => .non
  | _, _, .bl b, _ => .bl b
  | _, _, .int i, _ => .int i
  | _, _, .str x, _ => .str x
  | _, _, .lst h r, e => .lst h (RpA.dof' r (by simpa [PyData.canLay0] using e))
  | _, _, .tup h r, e => .tup h (RpA.dof' r (by simpa [PyData.canLay0] using e))
  | _, _, .dct h r, e => by simp [PyData.canLay0] at e
theorem RpA.dof' : ∀ {v : List V} {d : List PyData}, RpA K H v d → PyData.canLayAll0 d = true → DAll K H v d
  | _, _, .nil, _ => .nil
  | _, _, .cons h r, e => by
    simp only [PyData.canLayAll0, Bool.and_eq_true] at e
    exact .cons (Rp.dof' h e.1) (RpA.dof' r e.2)
end
theorem Rp.dof {v : V} {d : PyData} (h : Rp K H v d) (e : SeqAt.shaped d = true) : DOf K H v d := h.dof' (SeqAt.canLay_of_shaped e)
theorem RpA.pr : ∀ {vs : List V} {ds : List PyData}, RpA K H vs ds → Paired (Rp K H) vs ds
  | _, _, .nil => .nil
  | _, _, .cons h r => .cons h (RpA.pr r)
theorem RpA.of : ∀ {vs : List V} {ds : List PyData}, Paired (Rp K H) vs ds → RpA K H vs ds
  | _, _, .nil => .nil
  | _, _, .cons h r => .cons h (RpA.of r)
theorem RpA.len {vs : List V} {ds : List PyData} (h : RpA K H vs ds) : vs.length = ds.length := Paired.length h.pr
theorem RpA.append {vs us : List V} {ds es : List PyData} (h : RpA K H vs ds) (k : RpA K H us es) : RpA K H (vs ++ us) (ds ++ es) := .of (pr_append h.pr k.pr)
theorem RpA.take {vs : List V} {ds : List PyData} (n : Nat) (h : RpA K H vs ds) : RpA K H (vs.take n) (ds.take n) := .of (pr_take n h.pr)
theorem RpA.drop {vs : List V} {ds : List PyData} (n : Nat) (h : RpA K H vs ds) : RpA K H (vs.drop n) (ds.drop n) := .of (pr_drop n h.pr)
theorem RpA.rev {vs : List V} {ds : List PyData} (h : RpA K H vs ds) : RpA K H vs.reverse ds.reverse := .of (pr_reverse h.pr)
theorem RpA.rep {vs : List V} {ds : List PyData} (n : Nat) (h : RpA K H vs ds) : RpA K H (List.replicate n vs).flatten (List.replicate n ds).flatten := .of (pr_rep h.pr n)
theorem RpA.get {vs : List V} {ds : List PyData} {i : Nat} {d : PyData} (h : RpA K H vs ds) (e : ds[i]? = some d) : ∃ v, vs[i]? = some v ∧ Rp K H v d := pr_get' h.pr e
theorem RpA.dropLast {vs : List V} {ds : List PyData} (h : RpA K H vs ds) : RpA K H vs.dropLast ds.dropLast := by
  rw [List.dropLast_eq_take, List.dropLast_eq_take, h.len]
  exact h.take _
theorem RpA.snoc {vs : List V} {ds : List PyData} {v : V} {d : PyData} (h : RpA K H vs ds) (k : Rp K H v d) : RpA K H (vs ++ [v]) (ds ++ [d]) := h.append (.cons k .nil)
end
inductive Pt where
  | fl (d : PyData) | ol (ds : List PyData)
noncomputable def Pt.val : Pt → PyData
  | .fl d => d
  | .ol ds => .list ds
inductive Sl where
  /-- nothing is known -/
  | no
  /-- never written again -/
  | sh (d : PyData)
  /-- a list of one's own -/
  | ow (ds : List PyData)
  /-- a dict of one's own -/
  | od (kvs : List (Key × PyData))
  /-- a tuple with lists of one's own -/
  | tx (ps : List Pt)
  /-- (a part of an expression) the value of a name -/
  | al (i : Nat)
  /-- (a part of an expression) as it stands just now -/
  | br (d : PyData)
noncomputable def PtsOk (K : PySem.W.Frag) (F H : Hp) : List V → List Pt → List Addr → Prop
  | [], [], A => A = []
  | v :: vs, .fl d :: ps, A => Rp K F v d ∧ PtsOk K F H vs ps A
  | v :: vs, .ol ds :: ps, A => ∃ l us A', v = .ref l ∧ A = l :: A' ∧ H l = some (.lst us) ∧ RpA K F us ds ∧ PtsOk K F H vs ps A'
  | _, _, _ => False
noncomputable def KvOk (K : PySem.W.Frag) (F : Hp) : List (Key × V) → List (Key × PyData) → Prop := Paired fun p q => p.1 = q.1 ∧ Rp K F p.2 q.2
noncomputable def SlOk (K : PySem.W.Frag) (F H : Hp) (σ : L2.St) (o : Option V) : Sl → List Addr → Prop
  | .no, A => A = []
  | .sh d, A => A = [] ∧ ∃ v, o = some v ∧ Rp K F v d
  | .ow ds, A => ∃ l vs, o = some (.ref l) ∧ A = [l] ∧ H l = some (.lst vs) ∧ RpA K F vs ds
  | .od kvs, A => ∃ l us, o = some (.ref l) ∧ A = [l] ∧ H l = some (.dK us) ∧ KvOk K F us kvs
  | .tx ps, A => ∃ t vs, o = some (.ref t) ∧ F t = some (.tup vs) ∧ PtsOk K F H vs ps A
  | .al i, A => A = [] ∧ ∃ v, o = some v ∧ σ[i]? = some (some v)
  | .br d, A => A = [] ∧ ∃ v, o = some v ∧ Rp K H v d
noncomputable def Sl.isBr : Sl → Bool
  | .br _ => true
  | _ => false
noncomputable def Sl.isAl : Sl → Bool
  | .al _ => true
  | .br _ => true
  | _ => false
section
variable {K : PySem.W.Frag} {F F' H H' : Hp} {σ σ' : L2.St}
theorem PtsOk.stay (s : Same F F') : ∀ {vs : List V} {ps : List Pt} {A : List Addr}, (∀ b ∈ A, H' b = H b) → PtsOk K F H vs ps A → PtsOk K F' H' vs ps A
  | [], [], A, _, h => h
  | v :: vs, .fl d :: ps, A, e, h => ⟨h.1.same s, PtsOk.stay s e h.2⟩
  | v :: vs, .ol ds :: ps, A, e, h => by
    obtain ⟨l, us, A', rfl, rfl, hl, hr, q⟩ := h
    exact ⟨l, us, A', rfl, rfl, (e l (List.mem_cons_self ..)).trans hl, hr.same s, q.stay s fun b hb => e b (List.mem_cons_of_mem _ hb)⟩
  | [], _ :: _, _, _, h => False.elim h
  | _ :: _, [], _, _, h => False.elim h
theorem PtsOk.some : ∀ {vs : List V} {ps : List Pt} {A : List Addr}, PtsOk K F H vs ps A → ∀ a ∈ A, ∃ us, H a = some (.lst us)
  | [], [], A, h, a, ha => by rw [show A = [] from h] at ha; cases ha
  | v :: vs, .fl d :: ps, A, h, a, ha => PtsOk.some h.2 a ha
  | v :: vs, .ol ds :: ps, A, h, a, ha => by
    obtain ⟨l, us, A', rfl, rfl, hl, hr, q⟩ := h
    rcases List.mem_cons.mp ha with e | e
    · subst e; exact ⟨us, hl⟩
    · exact q.some a e
  | [], _ :: _, _, h, _, _ => False.elim h
  | _ :: _, [], _, h, _, _ => False.elim h
theorem PtsOk.rp (s : Same F H) : ∀ {vs : List V} {ps : List Pt} {A : List Addr}, PtsOk K F H vs ps A → RpA K H vs (ps.map Pt.val)
  | [], [], A, _ => .nil
  | v :: vs, .fl d :: ps, A, h => .cons (h.1.same s) (PtsOk.rp s h.2)
  | v :: vs, .ol ds :: ps, A, h => by
    obtain ⟨l, us, A', rfl, rfl, hl, hr, q⟩ := h
    exact .cons (.lst (SqL.of hl) (hr.same s)) (q.rp s)
  | [], _ :: _, _, h => False.elim h
  | _ :: _, [], _, h => False.elim h
theorem SlOk.stay {o : Option V} {s : Sl} {A : List Addr} (hF : Same F F') (e : ∀ b ∈ A, H' b = H b) (hb : s.isBr = true → Same H H') (h : SlOk K F H σ o s A) : SlOk K F' H' σ o s A := by
  cases s with
  | no => exact h
  | sh d => obtain ⟨rfl, v, rfl, r⟩ := h; exact ⟨rfl, v, rfl, r.same hF⟩
  | ow ds => obtain ⟨l, vs, rfl, rfl, hl, r⟩ := h; exact ⟨l, vs, rfl, rfl, (e l (by simp)).trans hl, r.same hF⟩
  | od kvs => obtain ⟨l, us, rfl, rfl, hl, r⟩ := h; exact ⟨l, us, rfl, rfl, (e l (by simp)).trans hl, Paired.mapP r fun _ _ q => ⟨q.1, q.2.same hF⟩⟩
  | tx ps => obtain ⟨t, vs, rfl, ht, r⟩ := h; exact ⟨t, vs, rfl, hF _ _ ht, r.stay hF e⟩
  | al i => exact h
  | br d => obtain ⟨rfl, v, rfl, r⟩ := h; exact ⟨rfl, v, rfl, r.same (hb rfl)⟩
theorem SlOk.mut {o : Option V} {s : Sl} {A : List Addr} (h : SlOk K F H σ o s A) : ∀ a ∈ A, (∃ us, H a = some (.lst us)) ∨ ∃ us, H a = some (.dK us) := by
  cases s with
  | no => intro a ha; rw [show A = [] from h] at ha; cases ha
  | sh d => obtain ⟨rfl, _⟩ := h; intro a ha; cases ha
  | ow ds => obtain ⟨l, vs, rfl, rfl, hl, r⟩ := h; intro a ha; rw [List.mem_singleton.mp ha]; exact .inl ⟨_, hl⟩
  | od kvs => obtain ⟨l, vs, rfl, rfl, hl, r⟩ := h; intro a ha; rw [List.mem_singleton.mp ha]; exact .inr ⟨_, hl⟩
  | tx ps => obtain ⟨t, vs, rfl, ht, r⟩ := h; exact fun a ha => .inl (r.some a ha)
  | al i => obtain ⟨rfl, _⟩ := h; intro a ha; cases ha
  | br d => obtain ⟨rfl, _⟩ := h; intro a ha; cases ha
end
inductive SAll (P : Option V → Sl → List Addr → Prop) : List (Option V) → List Sl → List Addr → Prop
  | nil : SAll P [] [] []
  | cons {o : Option V} {s : Sl} {A : List Addr} {os : List (Option V)} {ss : List Sl} {B : List Addr} : P o s A → SAll P os ss B → SAll P (o :: os) (s :: ss) (A ++ B)
section
variable {P P' : Option V → Sl → List Addr → Prop}
theorem SAll.len : ∀ {os : List (Option V)} {ss : List Sl} {A : List Addr}, SAll P os ss A → os.length = ss.length
  | _, _, _, .nil => rfl
  | _, _, _, .cons _ r => congrArg (· + 1) r.len
theorem SAll.mono : ∀ {os : List (Option V)} {ss : List Sl} {A : List Addr}, SAll P os ss A → (∀ o s B, s ∈ ss → (∀ b ∈ B, b ∈ A) → P o s B → P' o s B) → SAll P' os ss A
  | _, _, _, .nil, _ => .nil
  | _, _, _, .cons h r, f => .cons (f _ _ _ (List.mem_cons_self ..) (fun b hb => List.mem_append_left _ hb) h) (r.mono fun o s B hs hB q => f o s B (List.mem_cons_of_mem _ hs) (fun b hb => List.mem_append_right _ (hB b hb)) q)
theorem SAll.all {R : Addr → Prop} (hR : ∀ o s B, P o s B → ∀ b ∈ B, R b) : ∀ {os : List (Option V)} {ss : List Sl} {A : List Addr}, SAll P os ss A → ∀ a ∈ A, R a
  | _, _, _, .nil, a, ha => by cases ha
  | _, _, _, .cons h r, a, ha => (List.mem_append.mp ha).elim (hR _ _ _ h a) (r.all hR a)
theorem SAll.at : ∀ {os : List (Option V)} {ss : List Sl} {A : List Addr} {k : Nat} {s : Sl}, SAll P os ss A → ss[k]? = some s →
    ∃ o A0 A1 A2, A = A0 ++ (A1 ++ A2) ∧ os[k]? = some o ∧ P o s A1 ∧ ∀ (P' : Option V → Sl → List Addr → Prop) (o' : Option V) (s' : Sl) (A1' : List Addr), P' o' s' A1' →
      (∀ o s B, s ∈ ss → (∀ b ∈ B, b ∈ A0 ∨ b ∈ A2) → P o s B → P' o s B) → SAll P' (os.set k o') (ss.set k s') (A0 ++ (A1' ++ A2))
  | _, _, _, _, _, .nil, e => by simp at e
  | _, _, _, 0, s, .cons (o := o) (A := A) (B := B) h r, e => by
    simp at e; subst e
    refine ⟨o, [], A, B, by simp, rfl, h, fun P' o' s' A1' h' f => ?_⟩
    have z : SAll P' _ _ (A1' ++ B) := .cons h' (r.mono (P' := P') fun o s B hs hB q => f o s B (List.mem_cons_of_mem _ hs) (fun b hb => .inr (hB b hb)) q)
    exact z
  | _, _, _, k + 1, s, .cons (o := o) (A := A) (B := B) h r, e => by
    obtain ⟨o2, A0, A1, A2, eA, eo, hp, f⟩ := r.at (k := k) (s := s) (by simpa using e)
    subst eA
    refine ⟨o2, A ++ A0, A1, A2, by simp, by simpa using eo, hp, fun P' o' s' A1' h' g => ?_⟩
    have z := f P' o' s' A1' h' fun o s B hs hB q => g o s B (List.mem_cons_of_mem _ hs) (fun b hb => (hB b hb).imp (fun x => List.mem_append_right _ x) id) q
    rw [List.append_assoc]
    exact .cons (g _ _ _ (List.mem_cons_self ..) (fun b hb => .inl (List.mem_append_left _ hb)) h) z
end
end PL
namespace PL
open PySem L2 Nh
noncomputable abbrev Sg := L2.St
structure FrF (K : PySem.W.Frag) (B F : Hp) (A : List Addr) (σ : Sg) (H : Hp) (E : List Sl) (xs : List V) (Xs : List Sl) : Prop where
  bf : Same B F
  fh : Same F H
  tf : Same (tups H) F
  sl : SAll (SlOk K F H σ) (xs.map some ++ σ) (Xs ++ E) A
  nd : A.Nodup
  fr : ∀ a ∈ A, F a = none
  len : xs.length = Xs.length
  pl : ∀ s ∈ E, s.isAl = false
noncomputable def Frm (K : PySem.W.Frag) (B : Hp) (σ : Sg) (H : Hp) (E : List Sl) (xs : List V) (Xs : List Sl) : Prop := ∃ F A, FrF K B F A σ H E xs Xs
noncomputable def Sl.val : Sl → Option PyData
  | .sh d => some d
  | .ow ds => some (.list ds)
  | .tx ps => some (.tuple (ps.map Pt.val))
  | .br d => some d
  | _ => none
noncomputable def look (E : List Sl) : Sl → Option PyData
  | .al i => (E[i]?).bind Sl.val
  | s => s.val
noncomputable def hot1 : Sl → Bool
  | .br _ => true
  | .tx _ => true
  | _ => false
noncomputable def hot (E : List Sl) : Sl → Bool
  | .al i => (E[i]?).any hot1
  | s => hot1 s
noncomputable def RpF (K : PySem.W.Frag) (F H : Hp) (v : V) : PyData → Prop
  | .list ds => ∃ a vs, v = .ref a ∧ SqL K H a vs ∧ RpA K F vs ds
  | d => Rp K F v d
noncomputable def over (F H : Hp) (A : List Addr) : Hp := fun b => if b ∈ A then H b else F b
theorem over_in {F H : Hp} {A : List Addr} {b : Addr} (h : b ∈ A) : over F H A b = H b := if_pos h
theorem over_out {F H : Hp} {A : List Addr} {b : Addr} (h : b ∉ A) : over F H A b = F b := if_neg h
section
variable {K : PySem.W.Frag} {B F : Hp} {A : List Addr} {σ : Sg} {H : Hp} {E : List Sl} {xs : List V} {Xs : List Sl} {v : V} {s : Sl} {d : PyData}
theorem RpF.of (h : Rp K F v d) (s : Same F H) : RpF K F H v d := by
  cases h with
  | lst h r => exact ⟨_, _, rfl, s.seq h, r⟩
  | non => exact .non
  | bl b => exact .bl b
  | int i => exact .int i
  | str x => exact .str x
  | tup h r => exact .tup h r
  | dct h r => exact .dct h r
theorem SlOk.val {o : Option V} {A1 : List Addr} (h : SlOk K F H σ o s A1) (hF : Same F H) (e : s.val = some d) : ∃ v, o = some v ∧ Rp K H v d ∧ (hot1 s = false → RpF K F H v d) := by
  cases s with
  | no => cases e
  | sh d' =>
    obtain ⟨rfl, v, rfl, r⟩ := h
    cases e
    exact ⟨v, rfl, r.same hF, fun _ => RpF.of r hF⟩
  | ow ds =>
    obtain ⟨l, vs, rfl, rfl, hl, r⟩ := h
    cases e
    exact ⟨_, rfl, .lst (SqL.of hl) (r.same hF), fun _ => ⟨_, _, rfl, SqL.of hl, r⟩⟩
  | od kvs => cases e
  | tx ps =>
    obtain ⟨t, vs, rfl, ht, r⟩ := h
    cases e
    exact ⟨_, rfl, .tup (SqT.of (hF _ _ ht)) (r.rp hF), fun z => by cases z⟩
  | al i => cases e
  | br d' =>
    obtain ⟨rfl, v, rfl, r⟩ := h
    cases e
    exact ⟨v, rfl, r, fun z => by cases z⟩
theorem FrF.slen (h : FrF K B F A σ H E xs Xs) : σ.length = E.length := by
  have e := h.sl.len
  have := h.len
  simp only [List.length_append, List.length_map] at e
  omega
theorem FrF.var {i : Nat} (h : FrF K B F A σ H E xs Xs) (e : E[i]? = some s) : ∃ o A1, σ[i]? = some o ∧ SlOk K F H σ o s A1 := by
  obtain ⟨o, A0, A1, A2, eA, eo, hp, _⟩ := h.sl.at (k := Xs.length + i) (s := s) (by rw [List.getElem?_append_right (by omega)]; simpa using e)
  rw [List.getElem?_append_right (by rw [List.length_map, h.len]; omega), List.length_map, h.len, Nat.add_sub_cancel_left] at eo
  exact ⟨o, A1, eo, hp⟩
theorem FrF.ext {k : Nat} (h : FrF K B F A σ H E xs Xs) (e : Xs[k]? = some s) : ∃ v A1, xs[k]? = some v ∧ SlOk K F H σ (some v) s A1 := by
  have hk : k < Xs.length := (List.getElem?_eq_some_iff.mp e).1
  obtain ⟨o, A0, A1, A2, eA, eo, hp, _⟩ := h.sl.at (k := k) (s := s) (by rw [List.getElem?_append_left hk]; exact e)
  rw [List.getElem?_append_left (by rw [List.length_map, h.len]; omega), List.getElem?_map] at eo
  cases q : xs[k]? with
  | none => rw [q] at eo; cases eo
  | some v => rw [q] at eo; cases eo; exact ⟨v, A1, rfl, hp⟩
theorem FrF.look {k : Nat} (h : FrF K B F A σ H E xs Xs) (e : Xs[k]? = some s) (q : look E s = some d) : ∃ v, xs[k]? = some v ∧ Rp K H v d ∧ (hot E s = false → RpF K F H v d) := by
  obtain ⟨v, A1, ev, hs⟩ := h.ext e
  cases s with
  | al i =>
    obtain ⟨rfl, w, ew, hw⟩ := hs
    cases ew
    cases ei : E[i]? with
    | none => simp [PL.look, ei] at q
    | some t =>
      obtain ⟨o, A2, eo, ht⟩ := h.var ei
      rw [hw] at eo
      cases eo
      obtain ⟨v', e', r, c⟩ := ht.val h.fh (d := d) (by simpa [PL.look, ei] using q)
      cases e'
      exact ⟨v, ev, r, fun z => c (by simpa [hot, ei] using z)⟩
  | no => cases q
  | od kvs => cases q
  | sh d' => obtain ⟨v', e', r, c⟩ := hs.val h.fh q; cases e'; exact ⟨v, ev, r, c⟩
  | ow ds => obtain ⟨v', e', r, c⟩ := hs.val h.fh q; cases e'; exact ⟨v, ev, r, c⟩
  | tx ps => obtain ⟨v', e', r, c⟩ := hs.val h.fh q; cases e'; exact ⟨v, ev, r, c⟩
  | br d' => obtain ⟨v', e', r, c⟩ := hs.val h.fh q; cases e'; exact ⟨v, ev, r, c⟩
theorem FrF.look0 (h : FrF K B F A σ H E (v :: xs) (s :: Xs)) (q : PL.look E s = some d) : Rp K H v d ∧ (hot E s = false → RpF K F H v d) := by
  obtain ⟨v', e, r⟩ := h.look (k := 0) rfl q
  cases e
  exact r
theorem FrF.look1 {w : V} {t : Sl} (h : FrF K B F A σ H E (w :: v :: xs) (t :: s :: Xs)) (q : PL.look E s = some d) : Rp K H v d ∧ (hot E s = false → RpF K F H v d) := by
  obtain ⟨v', e, r⟩ := h.look (k := 1) rfl q
  cases e
  exact r
theorem FrF.mutA (h : FrF K B F A σ H E xs Xs) : ∀ a ∈ A, (∃ us, H a = some (.lst us)) ∨ ∃ us, H a = some (.dK us) :=
  SAll.all (R := fun a => (∃ us, H a = some (.lst us)) ∨ ∃ us, H a = some (.dK us)) (fun _ _ _ q => q.mut) h.sl
theorem FrF.newA {p : Addr} (h : FrF K B F A σ H E xs Xs) (hp : H p = none) : p ∉ A := fun hm => by
  rcases h.mutA p hm with ⟨_, z⟩ | ⟨_, z⟩ <;> rw [hp] at z <;> cases z
theorem FrF.cold {u : V} {e : PyData} (h : FrF K B F A σ H E xs Xs) (r : Rp K H u e) (f : flat e = true) : Rp K F u e := (r.cold f).same h.tf
theorem FrF.coldA {us : List V} {es : List PyData} (h : FrF K B F A σ H E xs Xs) (r : RpA K H us es) (f : flatA es = true) : RpA K F us es := (r.cold f).same h.tf
theorem FrF.push (h : FrF K B F A σ H E xs Xs) (q : SlOk K F H σ (some v) s []) : FrF K B F A σ H E (v :: xs) (s :: Xs) :=
  ⟨h.bf, h.fh, h.tf, .cons (A := []) q h.sl, h.nd, h.fr, by simp [h.len], h.pl⟩
theorem FrF.pop (h : FrF K B F A σ H E (v :: xs) (s :: Xs)) : ∃ A', FrF K B F A' σ H E xs Xs := by
  obtain ⟨bf, fh, tf, sl, nd, fr, len, pl⟩ := h
  generalize hT : List.map some (v :: xs) ++ σ = T at sl
  generalize hS : (s :: Xs) ++ E = S at sl
  cases sl with
  | nil => cases hS
  | cons q r =>
    injection hT with _ hT
    injection hS with _ hS
    subst hT hS
    exact ⟨_, bf, fh, tf, r, (List.nodup_append.mp nd).2.1, fun a ha => fr a (List.mem_append_right _ ha), by simpa using len, pl⟩
theorem FrF.grow {H' : Hp} (h : FrF K B F A σ H E xs Xs) (g : Same H H') : FrF K B (fun b => if b ∈ A then none else H' b) A σ H' E xs Xs := by
  have nF : ∀ b o, F b = some o → b ∉ A := fun b o e hb => by rw [h.fr b hb] at e; cases e
  have FF : Same F (fun b => if b ∈ A then none else H' b) := fun b o e => by
    show (if b ∈ A then none else H' b) = some o
    rw [if_neg (nF b o e)]
    exact g _ _ (h.fh _ _ e)
  have hA : ∀ b ∈ A, H' b = H b := fun b hb => by
    rcases h.mutA b hb with ⟨_, z⟩ | ⟨_, z⟩ <;> rw [z, g _ _ z]
  refine ⟨h.bf.trans FF, fun b o e => ?_, fun b o e => ?_, h.sl.mono fun o s C _ hC q => q.stay FF (fun b hb => hA b (hC b hb)) fun _ => g, h.nd, fun a ha => if_pos ha, h.len, h.pl⟩
  · by_cases hb : b ∈ A
    · rw [if_pos hb] at e; cases e
    · rw [if_neg hb] at e; exact e
  · obtain ⟨e1, e2⟩ := Option.filter_eq_some_iff.mp e
    show (if b ∈ A then none else H' b) = some o
    by_cases hb : b ∈ A
    · rw [hA b hb] at e1
      rcases h.mutA b hb with ⟨_, z⟩ | ⟨_, z⟩ <;> rw [z] at e1 <;> cases e1 <;> cases e2
    · rw [if_neg hb]; exact e1
theorem FrF.newl {p : Addr} {vs : List V} {ds : List PyData} (h : FrF K B F A σ H E xs Xs) (r : RpA K F vs ds) (hp : H p = none) : FrF K B F (p :: A) σ (upd H p (.lst vs)) E (.ref p :: xs) (.ow ds :: Xs) := by
  have g : Same H (upd H p (.lst vs)) := same_new hp _
  have nA := h.newA hp
  refine ⟨h.bf, h.fh.trans g, fun b o e => ?_, .cons (A := [p]) ⟨p, vs, rfl, rfl, upd_same, r⟩ (h.sl.mono fun o s C _ hC q => q.stay (Same.refl _) (fun b hb => upd_ne fun z => nA (z ▸ hC b hb)) fun _ => g), List.nodup_cons.mpr ⟨nA, h.nd⟩, fun a ha => ?_, by simp [h.len], h.pl⟩
  · obtain ⟨e1, e2⟩ := Option.filter_eq_some_iff.mp e
    by_cases hb : b = p
    · subst hb; rw [upd_same] at e1; cases e1; cases e2
    · rw [upd_ne hb] at e1; exact h.tf b o (tups_of e1 e2)
  · rcases List.mem_cons.mp ha with z | z
    · subst z; exact h.fh.free hp
    · exact h.fr a z
theorem FrF.newt {p : Addr} {vs : List V} {ds : List PyData} (h : FrF K B F A σ H E xs Xs) (r : RpA K F vs ds) (hp : H p = none) : FrF K B (upd F p (.tup vs)) A σ (upd H p (.tup vs)) E (.ref p :: xs) (.sh (.tuple ds) :: Xs) := by
  have g : Same H (upd H p (.tup vs)) := same_new hp _
  have nA := h.newA hp
  have gF : Same F (upd F p (.tup vs)) := same_new (h.fh.free hp) _
  refine ⟨h.bf.trans gF, fun b o e => ?_, fun b o e => ?_, .cons (A := []) ⟨rfl, _, rfl, .tup (.inl (.inl upd_same)) (r.same gF)⟩ (h.sl.mono fun o s C _ hC q => q.stay gF (fun b hb => upd_ne fun z => nA (z ▸ hC b hb)) fun _ => g), h.nd, fun a ha => ?_, by simp [h.len], h.pl⟩
  · by_cases hb : b = p
    · subst hb; rw [upd_same] at e ⊢; exact e
    · rw [upd_ne hb] at e ⊢; exact h.fh _ _ e
  · obtain ⟨e1, e2⟩ := Option.filter_eq_some_iff.mp e
    by_cases hb : b = p
    · subst hb; rw [upd_same] at e1 ⊢; exact e1
    · rw [upd_ne hb] at e1 ⊢; exact h.tf b o (tups_of e1 e2)
  · have ne : a ≠ p := fun z => nA (z ▸ ha)
    rw [upd_ne ne]; exact h.fr a ha
theorem FrF.mut {i : Nat} {ds : List PyData} (h : FrF K B F A σ H E xs Xs) (e : E[i]? = some (.ow ds)) (c : ∀ s ∈ Xs, s.isBr = false) :
    ∃ l vs, σ[i]? = some (some (.ref l)) ∧ H l = some (.lst vs) ∧ RpA K F vs ds ∧ ∀ vs' ds', RpA K F vs' ds' → FrF K B F A σ (upd H l (.lst vs')) (E.set i (.ow ds')) xs Xs := by
  obtain ⟨o, A0, A1, A2, eA, eo, hp, put⟩ := h.sl.at (k := Xs.length + i) (s := .ow ds) (by rw [List.getElem?_append_right (by omega)]; simpa using e)
  rw [List.getElem?_append_right (by rw [List.length_map, h.len]; omega), List.length_map, h.len, Nat.add_sub_cancel_left] at eo
  obtain ⟨l, vs, rfl, rfl, hl, r⟩ := hp
  refine ⟨l, vs, eo, hl, r, fun vs' ds' r' => ?_⟩
  have hlA : l ∈ A := by rw [eA]; simp
  have nl : ∀ b, b ∈ A0 ∨ b ∈ A2 → b ≠ l := fun b hb z => by
    subst z
    have nd := h.nd
    rw [eA] at nd
    rcases hb with hb | hb
    · exact (List.nodup_append.mp nd).2.2 b hb b (by simp) rfl
    · exact (List.nodup_append.mp (List.nodup_append.mp nd).2.1).2.2 b (by simp) b hb rfl
  have lF : F l = none := h.fr l hlA
  have z := put (SlOk K F (upd H l (.lst vs')) σ) (some (.ref l)) (.ow ds') [l] ⟨l, vs', rfl, rfl, upd_same, r'⟩ fun o s C hs hC q => q.stay (Same.refl _) (fun b hb => upd_ne (nl b (hC b hb))) fun z => by
    rcases List.mem_append.mp hs with hs | hs
    · rw [c s hs] at z; cases z
    · have := h.pl s hs
      cases s <;> simp [Sl.isAl, Sl.isBr] at this z
  have e3 : (Xs ++ E).set (Xs.length + i) (.ow ds') = Xs ++ E.set i (.ow ds') := by
    rw [List.set_append_right _ _ (by omega), Nat.add_sub_cancel_left]
  have e2 : (List.map some xs ++ σ).set (Xs.length + i) (some (V.ref l)) = List.map some xs ++ σ := by
    rw [← h.len, List.set_append_right _ _ (by rw [List.length_map]; omega), List.length_map, Nat.add_sub_cancel_left]
    congr 1
    exact List.ext_getElem? fun j => by
      by_cases hj : i = j
      · subst hj
        rw [List.getElem?_set_self' , eo]; rfl
      · rw [List.getElem?_set_ne hj]
  rw [e2, e3, ← eA] at z
  refine ⟨h.bf, fun b o q => ?_, ?_, z, h.nd, h.fr, h.len, fun s hs => ?_⟩
  · rw [upd_ne (fun z => by rw [z, lF] at q; cases q)]
    exact h.fh _ _ q
  · rw [tups_upd hl]; exact h.tf
  · rcases List.mem_or_eq_of_mem_set hs with hs | hs
    · exact h.pl s hs
    · subst hs; rfl
theorem FrF.frzAt {k : Nat} (h : FrF K B F A σ H E xs Xs) (e : (Xs ++ E)[k]? = some s) (q : s.val = some d) (c : s.isAl = false) :
    ∃ F' A' v, (xs.map some ++ σ)[k]? = some (some v) ∧ Rp K F' v d ∧ Same B F' ∧ Same F' H ∧ Same (tups H) F' ∧ SAll (SlOk K F' H σ) (xs.map some ++ σ) ((Xs ++ E).set k (.sh d)) A' ∧ A'.Nodup ∧ ∀ a ∈ A', F' a = none := by
  obtain ⟨o, A0, A1, A2, eA, eo, hp, put⟩ := h.sl.at e
  have nd := h.nd
  rw [eA] at nd
  have nA1 : ∀ b o, F b = some o → b ∉ A1 := fun b o e hb => by
    have := h.fr b (by rw [eA]; simp [hb])
    rw [this] at e; cases e
  have FF : Same F (over F H A1) := fun b o e => by rw [over_out (nA1 b o e)]; exact e
  obtain ⟨v, rfl, r⟩ : ∃ v, o = some v ∧ Rp K (over F H A1) v d := by
    cases s with
    | no => cases q
    | od kvs => cases q
    | al i => cases c
    | br d' => cases c
    | sh d' =>
      obtain ⟨rfl, v, rfl, r⟩ := hp
      cases q
      exact ⟨v, rfl, r.same FF⟩
    | ow ds =>
      obtain ⟨l, vs, rfl, rfl, hl, r⟩ := hp
      cases q
      exact ⟨_, rfl, .lst (SqL.of ((over_in (by simp)).trans hl)) (r.same FF)⟩
    | tx ps =>
      obtain ⟨t, vs, rfl, ht, r⟩ := hp
      cases q
      refine ⟨_, rfl, .tup (SqT.of (FF _ _ ht)) ?_⟩
      have r' : PtsOk K (over F H A1) (over F H A1) vs ps A1 := r.stay FF fun b hb => over_in hb
      exact r'.rp (Same.refl _)
  have e2 : (List.map some xs ++ σ).set k (some v) = List.map some xs ++ σ := List.ext_getElem? fun j => by
    by_cases hj : k = j
    · subst hj
      rw [List.getElem?_set_self', eo]; rfl
    · rw [List.getElem?_set_ne hj]
  have z := put (SlOk K (over F H A1) H σ) (some v) (.sh d) [] ⟨rfl, v, rfl, r⟩ fun o s C _ hC q => q.stay FF (fun b _ => rfl) fun _ => Same.refl _
  rw [e2] at z
  refine ⟨over F H A1, A0 ++ A2, v, eo, r, h.bf.trans FF, fun b o e => ?_, fun b o e => FF _ _ (h.tf _ _ e), by simpa using z, ?_, fun a ha => ?_⟩
  · by_cases hb : b ∈ A1
    · rw [over_in hb] at e; exact e
    · rw [over_out hb] at e; exact h.fh _ _ e
  · exact List.Nodup.sublist (List.Sublist.append (List.Sublist.refl _) (List.sublist_append_right _ _)) nd
  · have hn : a ∉ A1 := fun hm => by
      rcases List.mem_append.mp ha with z | z
      · exact (List.nodup_append.mp nd).2.2 a z a (by simp [hm]) rfl
      · exact (List.nodup_append.mp (List.nodup_append.mp nd).2.1).2.2 a hm a z rfl
    rw [over_out hn]
    exact h.fr a (by rw [eA]; rcases List.mem_append.mp ha with z | z <;> simp [z])
end
noncomputable def frz (E : List Sl) : Sl → Option (PyData × List Sl)
  | .sh d => some (d, E)
  | .ow ds => some (.list ds, E)
  | .tx ps => some (.tuple (ps.map Pt.val), E)
  | .br d => if flat d then some (d, E) else none
  | .al i => match E[i]? with
    | some (.sh d) => some (d, E)
    | some (.ow ds) => some (.list ds, E.set i (.sh (.list ds)))
    | some (.tx ps) => some (.tuple (ps.map Pt.val), E.set i (.sh (.tuple (ps.map Pt.val))))
    | _ => none
  | _ => none
section
variable {K : PySem.W.Frag} {B F : Hp} {A : List Addr} {σ : Sg} {H : Hp} {E E' : List Sl} {xs : List V} {Xs : List Sl} {v : V} {s : Sl} {d : PyData}
theorem FrF.frzVar {i : Nat} (h : FrF K B F A σ H E xs Xs) (e : E[i]? = some s) (q : s.val = some d) : ∃ F' A' v, σ[i]? = some (some v) ∧ Rp K F' v d ∧ FrF K B F' A' σ H (E.set i (.sh d)) xs Xs := by
  obtain ⟨F', A', v, ev, r, b1, b2, b3, sl, nd, fr⟩ := h.frzAt (k := Xs.length + i) (by rw [List.getElem?_append_right (by omega)]; simpa using e) q (h.pl s (List.mem_of_getElem? e))
  rw [List.getElem?_append_right (by rw [List.length_map, h.len]; omega), List.length_map, h.len, Nat.add_sub_cancel_left] at ev
  have e3 : (Xs ++ E).set (Xs.length + i) (.sh d) = Xs ++ E.set i (.sh d) := by
    rw [List.set_append_right _ _ (by omega), Nat.add_sub_cancel_left]
  rw [e3] at sl
  refine ⟨F', A', v, ev, r, b1, b2, b3, sl, nd, fr, h.len, fun s hs => ?_⟩
  rcases List.mem_or_eq_of_mem_set hs with hs | hs
  · exact h.pl s hs
  · subst hs; rfl
theorem FrF.frz0 (h : FrF K B F A σ H E (v :: xs) (s :: Xs)) (q : PL.frz E s = some (d, E')) : ∃ F' A', FrF K B F' A' σ H E' (v :: xs) (.sh d :: Xs) := by
  have key : s.val = some d → s.isAl = false → E = E' → ∃ F' A', FrF K B F' A' σ H E' (v :: xs) (.sh d :: Xs) := fun q' c e => by
    subst e
    obtain ⟨F', A', v', ev, r, b1, b2, b3, sl, nd, fr⟩ := h.frzAt (k := 0) rfl q' c
    exact ⟨F', A', b1, b2, b3, sl, nd, fr, by simpa using h.len, h.pl⟩
  have al : ∀ i t, s = .al i → E[i]? = some t → t.val = some d → E' = E.set i (.sh d) → ∃ F' A', FrF K B F' A' σ H E' (v :: xs) (.sh d :: Xs) := fun i t es ei qt eE => by
    subst es eE
    obtain ⟨v', A1, ev, hs⟩ := h.ext (k := 0) rfl
    cases ev
    obtain ⟨rfl, w, ew, hw⟩ := hs
    cases ew
    obtain ⟨F', A', w, ew, r, h'⟩ := h.frzVar ei qt
    rw [hw] at ew
    cases ew
    obtain ⟨A2, h2⟩ := h'.pop
    exact ⟨F', A2, h2.push ⟨rfl, _, rfl, r⟩⟩
  cases s with
  | no => cases q
  | od kvs => cases q
  | sh d' => cases q; exact key rfl rfl rfl
  | ow ds => cases q; exact key rfl rfl rfl
  | tx ps => cases q; exact key rfl rfl rfl
  | br d' =>
    simp only [PL.frz] at q
    split at q
    · rename_i hf
      cases q
      obtain ⟨r, _⟩ := h.look0 (d := d) rfl
      obtain ⟨A2, h2⟩ := h.pop
      exact ⟨F, A2, h2.push ⟨rfl, _, rfl, h.cold r hf⟩⟩
    · cases q
  | al i =>
    simp only [PL.frz] at q
    split at q
    · rename_i d' ei
      cases q
      refine al i _ rfl ei rfl ?_
      exact List.ext_getElem? fun j => by
        by_cases hj : i = j
        · subst hj; rw [List.getElem?_set_self', ei]; rfl
        · rw [List.getElem?_set_ne hj]
    · rename_i ds ei
      cases q
      exact al i _ rfl ei rfl rfl
    · rename_i ps ei
      cases q
      exact al i _ rfl ei rfl rfl
    · cases q
theorem FrF.store {i : Nat} (h : FrF K B F A σ H E (v :: xs) (s :: Xs)) (c : s.isAl = false) (cx : ∀ s ∈ Xs, s.isAl = false) (hi : i < E.length) : ∃ A', FrF K B F A' (σ.set i (some v)) H (E.set i s) xs Xs := by
  have hlen := h.len
  have hsl := h.slen
  obtain ⟨bf, fh, tf, sl, nd, fr, len, pl⟩ := h
  generalize hT : List.map some (v :: xs) ++ σ = T at sl
  generalize hS : (s :: Xs) ++ E = S at sl
  cases sl with
  | nil => cases hS
  | cons q r =>
    rename_i A1 _ _ A2
    injection hT with h1 hT
    injection hS with h2 hS
    subst h1 h2 hT hS
    have len' : xs.length = Xs.length := by simpa using len
    have r : SAll (SlOk K F H σ) (List.map some xs ++ σ) (Xs ++ E) A2 := r
    obtain ⟨t, et⟩ : ∃ t, E[i]? = some t := ⟨E[i], List.getElem?_eq_getElem hi⟩
    obtain ⟨o, C0, C1, C2, eA, eo, hp, put⟩ := r.at (k := Xs.length + i) (s := t) (by rw [List.getElem?_append_right (by omega)]; simpa using et)
    have all : ∀ s' ∈ Xs ++ E, s'.isAl = false := fun s' hs => (List.mem_append.mp hs).elim (cx s') (pl s')
    have chg : ∀ (o : Option V) (s' : Sl) (C : List Addr), s'.isAl = false → SlOk K F H σ o s' C → SlOk K F H (σ.set i (some v)) o s' C := fun o s' C hc z => by
      cases s' <;> first | exact z | cases hc
    have z := put (SlOk K F H (σ.set i (some v))) (some v) s A1 (chg _ _ _ c q) fun o s' C hs _ z => chg o s' C (all s' hs) z
    have e3 : (Xs ++ E).set (Xs.length + i) s = Xs ++ E.set i s := by
      rw [List.set_append_right _ _ (by omega), Nat.add_sub_cancel_left]
    have e2 : (List.map some xs ++ σ).set (Xs.length + i) (some v) = List.map some xs ++ σ.set i (some v) := by
      rw [← len', List.set_append_right _ _ (by rw [List.length_map]; omega), List.length_map, Nat.add_sub_cancel_left]
    rw [e2, e3] at z
    refine ⟨_, bf, fh, tf, z, ?_, fun a ha => fr a ?_, len', fun s' hs => ?_⟩
    · rw [eA] at nd
      have p : (C0 ++ (A1 ++ C2)).Perm (A1 ++ (C0 ++ C2)) := by
        rw [← List.append_assoc, ← List.append_assoc]
        exact List.Perm.append_right _ List.perm_append_comm
      refine p.nodup_iff.mpr (List.Nodup.sublist ?_ nd)
      exact List.Sublist.append (List.Sublist.refl _) (List.Sublist.append (List.Sublist.refl _) (List.sublist_append_right _ _))
    · rw [eA]
      simp only [List.mem_append] at ha ⊢
      rcases ha with z | z | z
      · exact .inr (.inl z)
      · exact .inl z
      · exact .inr (.inr (.inr z))
    · rcases List.mem_or_eq_of_mem_set hs with hs | hs
      · exact pl s' hs
      · subst hs; exact c
end
end PL
namespace PL
open PySem L2 Nh
noncomputable abbrev PEv := List Sl → Option (Sl × List Sl)
noncomputable abbrev PTv := List Sl → Option (Bool × List Sl)
noncomputable abbrev PAv := List Sl → Option (List Sl × List Sl)
noncomputable abbrev PDv := List Sl → Option (List PyData × List Sl)
inductive Fl where
  | nx | bk | ct | rt (r : Sl)
noncomputable abbrev PSv := List Sl → Option (List Sl × Fl)
noncomputable abbrev Calm (Xs : List Sl) : Prop := ∀ s ∈ Xs, s.isBr = false
noncomputable abbrev Still (Xs : List Sl) : Prop := ∀ s ∈ Xs, s.isAl = false
theorem Still.calm {Xs : List Sl} (h : Still Xs) : Calm Xs := fun s hs => by
  have := h s hs
  cases s <;> simp [Sl.isAl, Sl.isBr] at this ⊢
theorem Still.nil {Xs : List Sl} (h : Xs = []) : Still Xs := fun s hs => by subst h; cases hs
theorem Calm.nil {Xs : List Sl} (h : Xs = []) : Calm Xs := (Still.nil h).calm
theorem Calm.cons {Xs : List Sl} {s : Sl} (h : Calm Xs) (hs : s.isBr = false) : Calm (s :: Xs) := fun t ht => (List.mem_cons.mp ht).elim (fun e => e ▸ hs) (h t)
noncomputable def rd (K : PySem.W.Frag) (m : Bool) (f : PEv) : TE := fun σ H Q => ∃ B E xs Xs r E', Frm K B σ H E xs Xs ∧ (m = true → Calm Xs) ∧ f E = some (r, E') ∧ ∀ v H', Frm K B σ H' E' (v :: xs) (r :: Xs) → Q v H'
noncomputable def rt (K : PySem.W.Frag) (m : Bool) (f : PTv) : TT := fun σ H Q => ∃ B E xs Xs b E', Frm K B σ H E xs Xs ∧ (m = true → Calm Xs) ∧ f E = some (b, E') ∧ ∀ H', Frm K B σ H' E' xs Xs → Q b H'
noncomputable def ra (K : PySem.W.Frag) (m : Bool) (f : PAv) : TA := fun σ H Q => ∃ B E xs Xs rs E', Frm K B σ H E xs Xs ∧ (m = true → Calm Xs) ∧ f E = some (rs, E') ∧ ∀ vs H', vs.length = rs.length → Frm K B σ H' E' (vs.reverse ++ xs) (rs.reverse ++ Xs) → Q vs H'
noncomputable def raD (K : PySem.W.Frag) (m : Bool) (f : PDv) : TA := fun σ H Q => ∃ B E xs Xs ds E', Frm K B σ H E xs Xs ∧ (m = true → Calm Xs) ∧ f E = some (ds, E') ∧ ∀ vs H', vs.length = ds.length → Frm K B σ H' E' (vs.reverse ++ xs) (ds.reverse.map .sh ++ Xs) → Q vs H'
noncomputable def rs (K : PySem.W.Frag) (g : PSv) : TS := fun D σ H => ∃ B E xs Xs E' fl, Frm K B σ H E xs Xs ∧ Xs = [] ∧ g E = some (E', fl) ∧ match fl with
  | .nx => ∀ σ' H', Frm K B σ' H' E' xs Xs → D.nx σ' H'
  | .bk => ∀ σ' H', Frm K B σ' H' E' xs Xs → D.bk σ' H'
  | .ct => ∀ σ' H', Frm K B σ' H' E' xs Xs → D.ct σ' H'
  | .rt r => ∀ σ' v H', Frm K B σ' H' E' (v :: xs) (r :: Xs) → D.rt v H'
noncomputable def EX (X : Cx) (e : Expr) (m : Bool) (f : PEv) : Prop := PE X e (rd X.K m f)
noncomputable def TX (X : Cx) (e : Expr) (m : Bool) (f : PTv) : Prop := PT X e (rt X.K m f)
noncomputable def WX (X : Cx) (e : Expr) (m : Bool) (f : PTv) : Prop := PW X e (rt X.K m f)
noncomputable def AX (X : Cx) (es : List Expr) (m : Bool) (f : PAv) : Prop := PA X es (ra X.K m f)
noncomputable def DX (X : Cx) (es : List Expr) (m : Bool) (f : PDv) : Prop := PA X es (raD X.K m f)
noncomputable def SX (X : Cx) (s : Stmt) (g : PSv) : Prop := PS X s (rs X.K g)
noncomputable def SSX (X : Cx) (s : List Stmt) (g : PSv) : Prop := PSs X s (rs X.K g)
section
variable {X : Cx}
theorem pe_imp {e : Expr} {t t' : TE} (h : PE X e t) (k : ∀ σ H Q, t' σ H Q → t σ H Q) : PE X e t' := fun pins s σ H Q I q => h pins s σ H Q I (k σ H Q q)
theorem pt_imp {e : Expr} {t t' : TT} (h : PT X e t) (k : ∀ σ H Q, t' σ H Q → t σ H Q) : PT X e t' := fun pins s σ H Q I q => h pins s σ H Q I (k σ H Q q)
theorem pw_imp {e : Expr} {t t' : TT} (h : PW X e t) (k : ∀ σ H Q, t' σ H Q → t σ H Q) : PW X e t' := fun whole pins s σ H Q I q => h whole pins s σ H Q I (k σ H Q q)
theorem pa_imp {es : List Expr} {t t' : TA} (h : PA X es t) (k : ∀ σ H Q, t' σ H Q → t σ H Q) : PA X es t' := fun pos pins s σ H Q I q => h pos pins s σ H Q I (k σ H Q q)
theorem ps_imp {st : Stmt} {t t' : TS} (h : PS X st t) (k : ∀ D σ H, t' D σ H → t D σ H) : PS X st t' := fun pins s σ H D I q => h pins s σ H D I (k D σ H q)
theorem pss_imp {st : List Stmt} {t t' : TS} (h : PSs X st t) (k : ∀ D σ H, t' D σ H → t D σ H) : PSs X st t' := fun pins s σ H D I q => h pins s σ H D I (k D σ H q)
end
noncomputable def ofD : PyData → Option V
  | .none => some .non
  | .bool b => some (.bl b)
  | .int i => some (.int i)
  | .str x => some (.str x)
  | _ => none
theorem ofD_rp {K : PySem.W.Frag} {H : Hp} {d : PyData} {v : V} (h : ofD d = some v) : Rp K H v d := by
  cases d <;> simp [ofD] at h <;> subst h <;> constructor
noncomputable def pVar (i : Nat) : PEv := fun E => match E[i]? with
  | some (.sh d) => some (.sh d, E)
  | some (.ow _) => some (.al i, E)
  | some (.od _) => some (.al i, E)
  | some (.tx _) => some (.al i, E)
  | _ => none
noncomputable def pC (d : PyData) : PEv := fun E => some (.sh d, E)
section
variable {X : Cx} {K : PySem.W.Frag}
theorem xe_var (i : Nat) {x : Str} {pos : Pos} (hN : X.N[i]? = some x := by rfl) (hv : Vis X.env.scope x := by first | exact Or.inl rfl | exact Or.inr (Or.inl rfl) | exact Or.inr (Or.inr rfl)) (hd : (x == ("__debug__" : Str)) = false := by decide)
    (hcd : (x == ("__classdict__" : Str)) = false := by decide) : EX X (.Name x pos) false (pVar i) := by
  refine pe_imp (pe_var hN hv hd hcd) fun σ H Q h => ?_
  obtain ⟨B, E, xs, Xs, r, E', ⟨F, A, fr⟩, _, e, q⟩ := h
  unfold pVar at e
  split at e
  · rename_i d ei
    cases e
    obtain ⟨o, A1, eo, rfl, v, rfl, rp⟩ := fr.var ei
    exact ⟨v, eo, q v H ⟨F, A, fr.push ⟨rfl, v, rfl, rp⟩⟩⟩
  · rename_i ds ei
    cases e
    obtain ⟨o, A1, eo, l, vs, rfl, _⟩ := fr.var ei
    exact ⟨_, eo, q _ H ⟨F, A, fr.push ⟨rfl, _, rfl, eo⟩⟩⟩
  · rename_i ds ei
    cases e
    obtain ⟨o, A1, eo, l, vs, rfl, _⟩ := fr.var ei
    exact ⟨_, eo, q _ H ⟨F, A, fr.push ⟨rfl, _, rfl, eo⟩⟩⟩
  · rename_i ds ei
    cases e
    obtain ⟨o, A1, eo, l, vs, rfl, _⟩ := fr.var ei
    exact ⟨_, eo, q _ H ⟨F, A, fr.push ⟨rfl, _, rfl, eo⟩⟩⟩
  · cases e
theorem xe_c {e : Expr} {v : V} (d : PyData) (h : PE X e (tC v)) (hd : ofD d = some v := by rfl) : EX X e false (pC d) := by
  refine pe_imp h fun σ H Q h => ?_
  obtain ⟨B, E, xs, Xs, r, E', ⟨F, A, fr⟩, _, e, q⟩ := h
  cases e
  exact q v H ⟨F, A, fr.push ⟨rfl, v, rfl, ofD_rp hd⟩⟩
theorem xe_int {i j pos} : EX X (.Constant (.int i) j pos) false (pC (.int i)) := xe_c _ pe_int
theorem xe_bl {b j pos} : EX X (.Constant (.bool b) j pos) false (pC (.bool b)) := xe_c _ pe_bl
theorem xe_str {x j pos} : EX X (.Constant (.str x) j pos) false (pC (.str x)) := xe_c _ pe_str
end
noncomputable abbrev P2 := List Sl → Sl → Sl → Option (Sl × List Sl)
noncomputable def BinOk (K : PySem.W.Frag) (r : R2) (p : P2) : Prop := ∀ {B F : Hp} {A : List Addr} {σ : Sg} {H : Hp} {E : List Sl} {xs : List V} {Xs : List Sl} {v1 v2 : V} {s1 s2 res : Sl} {E' : List Sl} {Q : VK},
  FrF K B F A σ H E (v2 :: v1 :: xs) (s2 :: s1 :: Xs) → p E s1 s2 = some (res, E') → (∀ v H', Frm K B σ H' E' (v :: xs) (res :: Xs) → Q v H') → r v1 v2 H Q
noncomputable def pBin (p : P2) (m2 : Bool) (f g : PEv) : PEv := fun E => (f E).bind fun a => if m2 && a.1.isBr then none else (g a.2).bind fun b => p b.2 a.1 b.1
theorem rd_bin {K : PySem.W.Frag} {r : R2} {p : P2} (hp : BinOk K r p) {m1 m2 : Bool} {f g : PEv} {σ : Sg} {H : Hp} {Q : VK} (h : rd K (m1 || m2) (pBin p m2 f g) σ H Q) : tOp r (rd K m1 f) (rd K m2 g) σ H Q := by
  obtain ⟨B, E, xs, Xs, res, E', fr, c, e, q⟩ := h
  obtain ⟨⟨s1, E1⟩, e1, e⟩ := Option.bind_eq_some_iff.mp e
  by_cases hb : (m2 && s1.isBr) = true
  · rw [if_pos hb] at e; cases e
  rw [if_neg hb] at e
  obtain ⟨⟨s2, E2⟩, e2, e⟩ := Option.bind_eq_some_iff.mp e
  refine ⟨B, E, xs, Xs, s1, E1, fr, fun z => c (by simp [z]), e1, fun v1 H1 fr1 => ?_⟩
  refine ⟨B, E1, v1 :: xs, s1 :: Xs, s2, E2, fr1, fun z => ?_, e2, fun v2 H2 fr2 => ?_⟩
  · refine Calm.cons (c (by simp [z])) ?_
    cases hs : s1.isBr with
    | false => rfl
    | true => exact absurd (by simp [z, hs]) hb
  · obtain ⟨F, A, fr2⟩ := fr2
    exact hp fr2 e q
noncomputable def sc2 (op : PyData → PyData → Option PyData) : P2 := fun E s1 s2 => (look E s1).bind fun d1 => (look E s2).bind fun d2 => (op d1 d2).map fun d => (.sh d, E)
theorem FrF.res2 {K : PySem.W.Frag} {B F : Hp} {A : List Addr} {σ : Sg} {H : Hp} {E : List Sl} {xs : List V} {Xs : List Sl} {v1 v2 v : V} {s1 s2 s : Sl} (h : FrF K B F A σ H E (v2 :: v1 :: xs) (s2 :: s1 :: Xs)) (q : SlOk K F H σ (some v) s []) : Frm K B σ H E (v :: xs) (s :: Xs) := by
  obtain ⟨A1, h⟩ := h.pop
  obtain ⟨A2, h⟩ := h.pop
  exact ⟨F, A2, h.push q⟩
theorem sc2_ok {K : PySem.W.Frag} {r : R2} {op : PyData → PyData → Option PyData} (h : ∀ (d1 d2 d : PyData) (v1 v2 : V) (H : Hp) (Q : VK), op d1 d2 = some d → Rp K H v1 d1 → Rp K H v2 d2 → ∃ v, ofD d = some v ∧ (Q v H → r v1 v2 H Q)) : BinOk K r (sc2 op) := by
  intro B F A σ H E xs Xs v1 v2 s1 s2 res E' Q fr e q
  obtain ⟨d1, e1, e⟩ := Option.bind_eq_some_iff.mp e
  obtain ⟨d2, e2, e⟩ := Option.bind_eq_some_iff.mp e
  obtain ⟨d, e3, e⟩ := Option.map_eq_some_iff.mp e
  cases e
  obtain ⟨v, hv, k⟩ := h d1 d2 d v1 v2 H Q e3 (fr.look1 e1).1 (fr.look0 e2).1
  exact k (q v H (fr.res2 ⟨rfl, v, rfl, ofD_rp hv⟩))
section
variable {X : Cx} {a b : Expr} {m1 m2 : Bool} {f g : PEv} {pos : Pos}
theorem xe_op {op : Operator} {r : R2} {p : P2} (ho : OpR X (binaryOp op) r) (hp : BinOk X.K r p) (ha : EX X a m1 f) (hb : EX X b m2 g) : EX X (.BinOp a op b pos) (m1 || m2) (pBin p m2 f g) := pe_imp (pe_op ho ha hb) fun _ _ _ h => rd_bin hp h
theorem xe_cmp {op : CmpOp} {r : R2} {p : P2} (ho : OpR X (compareOp op) r) (hp : BinOk X.K r p) (ha : EX X a m1 f) (hb : EX X b m2 g) (hm : behindInMarks op b = false) : EX X (.Compare a [op] [b] pos) (m1 || m2) (pBin p m2 f g) := pe_imp (pe_cmpR ho ha hb hm) fun _ _ _ h => rd_bin hp h
noncomputable def isB (f : PEv) : PTv := fun E => (f E).bind fun a => match a.1 with
  | .sh (.bool b) => some (b, a.2)
  | _ => none
theorem rt_isB {K : PySem.W.Frag} {m : Bool} {f : PEv} {σ : Sg} {H : Hp} {Q : Bool → Hp → Prop} (h : rt K m (isB f) σ H Q) : rd K m f σ H (fun x H' => ∃ k, x = .bl k ∧ Q k H') := by
  obtain ⟨B, E, xs, Xs, b, E', fr, c, e, q⟩ := h
  obtain ⟨⟨s, E1⟩, e1, e⟩ := Option.bind_eq_some_iff.mp e
  refine ⟨B, E, xs, Xs, s, E1, fr, c, e1, fun v H' ⟨F, A, fr'⟩ => ?_⟩
  simp only at e
  split at e
  · cases e
    obtain ⟨r, _⟩ := fr'.look0 (d := .bool b) rfl
    cases r
    obtain ⟨A', fr2⟩ := fr'.pop
    exact ⟨b, rfl, q H' ⟨F, A', fr2⟩⟩
  · cases e
theorem xt_cmp {op : CmpOp} {r : R2} {p : P2} (ho : OpR X (compareOp op) r) (hp : BinOk X.K r p) (ha : EX X a m1 f) (hb : EX X b m2 g) (hm : behindInMarks op b = false) : TX X (.Compare a [op] [b] pos) (m1 || m2) (isB (pBin p m2 f g)) := by
  refine pt_imp (pt_cmpR ho ha hb hm) fun σ H Q h => ?_
  exact rd_bin hp (rt_isB h)
end
noncomputable def bnd : Int := 2 ^ 20000
noncomputable def okMul (i j : Int) : Bool := decide (-(2 ^ 64) < i ∧ i < 2 ^ 64) || decide (-(2 ^ 64) < j ∧ j < 2 ^ 64) || decide (-bnd < i ∧ i < bnd ∧ -bnd < j ∧ j < bnd)
noncomputable def okDiv (j : Int) : Bool := decide (0 < j ∧ j < 2 ^ 200)
noncomputable def iOp (C : Int → Int → Bool) (g : Int → Int → PyData) : PyData → PyData → Option PyData
  | .int i, .int j => if C i j then some (g i j) else none
  | _, _ => none
noncomputable abbrev rIC (C : Int → Int → Bool) (g : Int → Int → V) : R2 := rI (fun i j => C i j = true) g
theorem iOp_ok {K : PySem.W.Frag} {C : Int → Int → Bool} {g : Int → Int → PyData} {g' : Int → Int → V} (hg : ∀ i j, ofD (g i j) = some (g' i j)) : BinOk K (rIC C g') (sc2 (iOp C g)) := by
  refine sc2_ok fun d1 d2 d v1 v2 H Q e r1 r2 => ?_
  unfold iOp at e
  split at e
  · split at e
    · cases e
      cases r1
      cases r2
      rename_i hC
      exact ⟨_, hg _ _, fun q => ⟨_, _, rfl, rfl, hC, q⟩⟩
    · cases e
  · cases e
section
variable {X : Cx}
theorem intBits_big {i : Int} (h1 : -bnd < i) (h2 : i < bnd) : Builtin.Int.intBits i ≤ 2 ^ 20 := by
  unfold bnd at h1 h2
  have h : i.natAbs < 2 ^ 20000 := by
    have e : ((2 ^ 20000 : Nat) : Int) = 2 ^ 20000 := Int.natCast_pow 2 20000
    generalize (2 ^ 20000 : Int) = z at h1 h2 e
    generalize (2 ^ 20000 : Nat) = y at e ⊢
    omega
  unfold Builtin.Int.intBits
  split
  · exact Nat.zero_le _
  · rename_i hz
    have hz' : i ≠ 0 := by simpa using hz
    have : i.natAbs.log2 < 20000 := (Nat.log2_lt (by omega)).mpr h
    omega
theorem okMul_ok {i j : Int} (h : okMul i j = true) : PySem.IntMulOk i j := by
  unfold okMul at h
  simp only [Bool.or_eq_true, decide_eq_true_eq] at h
  rcases h with (h | h) | h
  · exact CMul.ok (.inl h)
  · exact CMul.ok (.inr h)
  · exact PySem.IntMulOk.of_bits (intBits_big h.1 h.2.1) (intBits_big h.2.2.1 h.2.2.2)
end
end PL
namespace PL
open PySem L2 Nh PyProof.Rows
noncomputable abbrev SgT := L2.St
section
variable {X : Cx}
theorem OpR.or {f : Value → Value → Sem Value} {r r' : R2} (h : OpR X f r) (h' : OpR X f r') : OpR X f (fun x y H Q => r x y H Q ∨ r' x y H Q) := by
  intro pins s σ H x y v u Q I rx ry q
  rcases q with q | q
  · exact h pins s σ H x y v u Q I rx ry q
  · exact h' pins s σ H x y v u Q I rx ry q
theorem OpR.imp {f : Value → Value → Sem Value} {r r' : R2} (h : OpR X f r) (k : ∀ x y H Q, r' x y H Q → r x y H Q) : OpR X f r' := fun pins s σ H x y v u Q I rx ry q => h pins s σ H x y v u Q I rx ry (k _ _ _ _ q)
noncomputable def rCatS (K : PySem.W.Frag) : R2 := fun x y H Q => ∃ l b xs zs, x = .ref l ∧ y = .ref b ∧ SqL K H l xs ∧ SqL K H b zs ∧ xs.length + zs.length ≤ sizeLine ∧ ∀ p, H p = none → Q (.ref p) (upd H p (.lst (xs ++ zs)))
theorem op_catS : OpR X (binaryOp .Add) (rCatS X.K) := by
  intro pins s σ H x y v u Q I rx ry h
  obtain ⟨l, b, xs, zs, rfl, rfl, hH, hB, hz, q⟩ := h
  cases rx
  cases ry
  obtain ⟨its, r, p1, z1⟩ := I.list hH
  obtain ⟨its2, r2, p2, z2⟩ := I.list hB
  obtain ⟨⟨cls, dd, data, sl⟩, ho, hc, n, hd⟩ := p1.isList
  obtain ⟨⟨cls2, dd2, data2, sl2⟩, ho2, hc2, n2, hd2⟩ := p2.isList
  simp only at hc hd hc2 hd2
  subst hc hd hc2 hd2
  have l1 := r.length
  have l2 := r2.length
  refine concat_meets ⟨_, ho, rfl⟩ ⟨_, ho2, rfl⟩ noFill_list_add seq_list_add PySem.F.slot_list_add PySem.F.entry_list_add (PySem.F.args_list_add_2 _ _) (list_addW l b its.toArray its2.toArray n n2 dd dd2 sl sl2 (by simp only [List.size_toArray]; omega)) ⟨ho, ho2, ?_⟩
  have ea : its.toArray ++ its2.toArray = (its ++ its2).toArray := by simp
  rw [ea]
  exact ⟨.ref _, _, I.lnew (t' := s.toks) (r.append r2) (by rw [List.length_append]; omega), rfl, q _ I.fresh⟩
noncomputable def rRepS (K : PySem.W.Frag) : R2 := fun x y H Q => ∃ l k xs, x = .ref l ∧ y = .int k ∧ SqL K H l xs ∧ -(2 ^ 63) ≤ k ∧ k < 2 ^ 63 ∧ xs.length * k.toNat ≤ sizeLine ∧
  ∀ p, H p = none → Q (.ref p) (upd H p (.lst (List.replicate k.toNat xs).flatten))
theorem op_repS : OpR X (binaryOp .Mult) (rRepS X.K) := by
  intro pins s σ H x y v u Q I rx ry h
  obtain ⟨l, k, xs, rfl, rfl, hH, h1, h2, hz, q⟩ := h
  cases rx
  obtain ⟨t, rfl⟩ := ry
  obtain ⟨its, r, p1, z1⟩ := I.list hH
  obtain ⟨⟨cls, d, data, sl⟩, ho, hcl, n, hd⟩ := p1.isList
  simp only at hcl hd
  subst hcl hd
  have l1 := r.length
  have hsz : its.toArray.size * k.toNat ≤ 2 ^ 24 := by rw [List.size_toArray, ← l1]; exact hz
  refine wpAny_binaryOp_repeat_ref (T := "list") (U := "int") (by decide) ⟨_, ho, rfl⟩ (fun s' => typeIs_int s' k t) noFill_list_mul F.fills_int_mul F.slot_int_rmul repeat_list F.slot_int_index.lookup
    (call_meets F.slot_int_rmul (typeIs_int s k t) F.entry_int_rmul (F.args_int_rmul_2 _ _) (lm_int_rmul_list_any k t l its.toArray n d sl)
      ⟨ho, rfl, ⟨_, ho, rfl⟩, call_meets F.slot_list_mul ⟨_, ho, rfl⟩ F.entry_list_mul (F.args_list_mul_2 _ _)
        (lm_list_mul_any l its.toArray n d sl k t (by simp [Builtin.List.listFitsIndex]; omega) (by omega) (by simp [Builtin.List.listTooLong, sizeLine]; omega))
        ⟨ho, ?_⟩⟩)
  rw [listMul_foldl_if]
  exact ⟨.ref _, _, I.lnew (t' := s.toks) (r.rep k.toNat) (by rw [len_rep, Nat.mul_comm]; exact hz), rfl, q _ I.fresh⟩
end
noncomputable def pAdd : P2 := fun E s1 s2 => (look E s1).bind fun d1 => (look E s2).bind fun d2 => match d1, d2 with
  | .int i, .int j => some (.sh (.int (i + j)), E)
  | .str a, .str b => if a.length + b.length ≤ 1000000 then some (.sh (.str (a ++ b)), E) else none
  | .list a, .list b => if decide (a.length + b.length ≤ 1000000) && (!hot E s1 || flatA a) && (!hot E s2 || flatA b) then some (.ow (a ++ b), E) else none
  | _, _ => none
theorem small {n : Nat} (h : n ≤ 1000000) : n < sizeLine := Nat.lt_of_le_of_lt h (by rw [sizeLine_eq]; decide)
theorem smallE {n : Nat} (h : n ≤ 1000000) : n ≤ sizeLine := Nat.le_of_lt (small h)
section
variable {K : PySem.W.Frag} {B F : Hp} {A : List Addr} {σ : SgT} {H : Hp} {E : List Sl} {xs : List V} {Xs : List Sl} {v : V} {s : Sl} {ds : List PyData}
theorem FrF.items {k : Nat} (h : FrF K B F A σ H E xs Xs) (e : Xs[k]? = some s) (q : PL.look E s = some (.list ds)) (c : (!hot E s || flatA ds) = true) : ∃ a vs, xs[k]? = some (.ref a) ∧ SqL K H a vs ∧ RpA K F vs ds := by
  obtain ⟨v, ev, r, f⟩ := h.look e q
  cases hh : hot E s with
  | false =>
    obtain ⟨a, vs, rfl, h1, h2⟩ := f hh
    exact ⟨a, vs, ev, h1, h2⟩
  | true =>
    rw [hh] at c
    cases r with
    | lst h1 h2 => exact ⟨_, _, ev, h1, h.coldA h2 (by simpa using c)⟩
theorem FrF.res2l {v1 v2 : V} {s1 s2 : Sl} {vs : List V} (h : FrF K B F A σ H E (v2 :: v1 :: xs) (s2 :: s1 :: Xs)) (r : RpA K F vs ds) {p : Addr} (hp : H p = none) : Frm K B σ (upd H p (.lst vs)) E (.ref p :: xs) (.ow ds :: Xs) := by
  obtain ⟨A1, h⟩ := h.pop
  obtain ⟨A2, h⟩ := h.pop
  exact ⟨F, _, h.newl r hp⟩
end
noncomputable abbrev rAddU (K : PySem.W.Frag) : R2 := fun x y H Q => (∃ i j, x = .int i ∧ y = .int j ∧ Q (.int (i + j)) H) ∨ (∃ i j, x = .str i ∧ y = .str j ∧ i.length + j.length ≤ sizeLine ∧ Q (.str (i ++ j)) H) ∨ rCatS K x y H Q
theorem op_addU {X : Cx} : OpR X (binaryOp .Add) (rAddU X.K) := OpR.or op_add (OpR.or op_add_str op_catS)
theorem pAdd_ok {K : PySem.W.Frag} : BinOk K (rAddU K) pAdd := by
  intro B F A σ H E xs Xs v1 v2 s1 s2 res E' Q fr e q
  obtain ⟨d1, e1, e⟩ := Option.bind_eq_some_iff.mp e
  obtain ⟨d2, e2, e⟩ := Option.bind_eq_some_iff.mp e
  have r1 := (fr.look1 e1).1
  have r2 := (fr.look0 e2).1
  split at e
  · cases e; cases r1; cases r2
    exact .inl ⟨_, _, rfl, rfl, q _ _ (fr.res2 ⟨rfl, _, rfl, .int _⟩)⟩
  · split at e
    · rename_i hl
      cases e; cases r1; cases r2
      exact .inr (.inl ⟨_, _, rfl, rfl, smallE hl, q _ _ (fr.res2 ⟨rfl, _, rfl, .str _⟩)⟩)
    · cases e
  · split at e
    · rename_i hc
      cases e
      simp only [Bool.and_eq_true, decide_eq_true_eq] at hc
      obtain ⟨a1, u1, x1, q1, i1⟩ := fr.items (k := 1) rfl e1 hc.1.2
      obtain ⟨a2, u2, x2, q2, i2⟩ := fr.items (k := 0) rfl e2 hc.2
      cases x1; cases x2
      have l1 := i1.len
      have l2 := i2.len
      exact .inr (.inr ⟨_, _, _, _, rfl, rfl, q1, q2, smallE (by omega), fun p hp => q _ _ (fr.res2l (i1.append i2) hp)⟩)
    · cases e
  · cases e
noncomputable def pSub : P2 := sc2 (iOp (fun _ _ => true) fun i j => .int (i - j))
noncomputable def pFdiv : P2 := sc2 (iOp (fun _ j => okDiv j) fun i j => .int (i / j))
noncomputable def pMod : P2 := sc2 (iOp (fun _ j => decide (0 < j)) fun i j => .int (i % j))
noncomputable def pPow : P2 := sc2 (iOp (fun i j => decide (0 ≤ j ∧ j ≤ 1000000 ∧ -(2 ^ 64) < i ∧ i < 2 ^ 64)) fun i j => .int (i ^ j.toNat))
section
variable {X : Cx}
theorem op_subC : OpR X (binaryOp .Sub) (rIC (fun _ _ => true) fun i j => .int (i - j)) := OpR.imp op_sub fun x y H Q ⟨i, j, a, b, _, q⟩ => ⟨i, j, a, b, q⟩
theorem op_fdivC : OpR X (binaryOp .FloorDiv) (rIC (fun _ j => okDiv j) fun i j => .int (i / j)) := opI fun i j _ _ _ _ _ hc q => by
  obtain ⟨h1, h2⟩ := of_decide_eq_true hc
  have h3 : j.natAbs.log2 < 9000 := by
    have : j.natAbs < 2 ^ 200 := by omega
    have := (Nat.log2_lt (n := j.natAbs) (k := 200) (by omega)).mpr this
    omega
  exact floordiv_int (by omega) (by rw [Int.fdiv_eq_ediv_of_nonneg i (by omega)]; exact q) (.inl (PyProof.noPylong_of_log2 h3))
theorem op_modC : OpR X (binaryOp .Mod) (rIC (fun _ j => decide (0 < j)) fun i j => .int (i % j)) := OpR.imp op_mod fun x y H Q ⟨i, j, a, b, c, q⟩ => ⟨i, j, a, b, of_decide_eq_true c, q⟩
theorem cpow_of {i j : Int} (c : 0 ≤ j ∧ j ≤ 1000000 ∧ -(2 ^ 64) < i ∧ i < 2 ^ 64) : CPow i j := ⟨c.1, c.2.1, by omega⟩
theorem op_powC : OpR X (binaryOp .Pow) (rIC (fun i j => decide (0 ≤ j ∧ j ≤ 1000000 ∧ -(2 ^ 64) < i ∧ i < 2 ^ 64)) fun i j => .int (i ^ j.toNat)) := OpR.imp op_pow fun x y H Q ⟨i, j, a, b, c, q⟩ => ⟨i, j, a, b, cpow_of (of_decide_eq_true c), q⟩
end
noncomputable def pMul : P2 := fun E s1 s2 => (look E s1).bind fun d1 => (look E s2).bind fun d2 => match d1, d2 with
  | .int i, .int j => if okMul i j then some (.sh (.int (i * j)), E) else none
  | .list a, .int k => if decide (a.length * k.toNat ≤ 1000000 ∧ -1000000 ≤ k ∧ k ≤ 1000000) && (!hot E s1 || flatA a) then some (.ow (List.replicate k.toNat a).flatten, E) else none
  | _, _ => none
noncomputable abbrev rMulU (K : PySem.W.Frag) : R2 := fun x y H Q => rIC okMul (fun i j => .int (i * j)) x y H Q ∨ rRepS K x y H Q
theorem op_mulU {X : Cx} : OpR X (binaryOp .Mult) (rMulU X.K) := OpR.or (opI fun _ _ _ _ _ _ _ hc q => mul_int q (okMul_ok hc)) op_repS
theorem pMul_ok {K : PySem.W.Frag} : BinOk K (rMulU K) pMul := by
  intro B F A σ H E xs Xs v1 v2 s1 s2 res E' Q fr e q
  obtain ⟨d1, e1, e⟩ := Option.bind_eq_some_iff.mp e
  obtain ⟨d2, e2, e⟩ := Option.bind_eq_some_iff.mp e
  have r1 := (fr.look1 e1).1
  have r2 := (fr.look0 e2).1
  split at e
  · split at e
    · rename_i hm
      cases e; cases r1; cases r2
      exact .inl ⟨_, _, rfl, rfl, hm, q _ _ (fr.res2 ⟨rfl, _, rfl, .int _⟩)⟩
    · cases e
  · split at e
    · rename_i hc
      cases e
      simp only [Bool.and_eq_true, decide_eq_true_eq] at hc
      obtain ⟨a1, u1, x1, q1, i1⟩ := fr.items (k := 1) rfl e1 hc.2
      cases x1; cases r2
      have l1 := i1.len
      exact .inr ⟨_, _, _, rfl, rfl, q1, by omega, by omega, smallE (by rw [l1]; exact hc.1.1), fun p hp => q _ _ (fr.res2l (i1.rep _) hp)⟩
    · cases e
  · cases e
section
variable {X : Cx} {a b : Expr} {m1 m2 : Bool} {f g : PEv} {pos : Pos}
theorem xe_add (ha : EX X a m1 f) (hb : EX X b m2 g) : EX X (.BinOp a .Add b pos) (m1 || m2) (pBin pAdd m2 f g) := xe_op op_addU pAdd_ok ha hb
theorem xe_sub (ha : EX X a m1 f) (hb : EX X b m2 g) : EX X (.BinOp a .Sub b pos) (m1 || m2) (pBin pSub m2 f g) := xe_op op_subC (iOp_ok fun _ _ => rfl) ha hb
theorem xe_mul (ha : EX X a m1 f) (hb : EX X b m2 g) : EX X (.BinOp a .Mult b pos) (m1 || m2) (pBin pMul m2 f g) := xe_op op_mulU pMul_ok ha hb
theorem xe_fdiv (ha : EX X a m1 f) (hb : EX X b m2 g) : EX X (.BinOp a .FloorDiv b pos) (m1 || m2) (pBin pFdiv m2 f g) := xe_op op_fdivC (iOp_ok fun _ _ => rfl) ha hb
theorem xe_mod (ha : EX X a m1 f) (hb : EX X b m2 g) : EX X (.BinOp a .Mod b pos) (m1 || m2) (pBin pMod m2 f g) := xe_op op_modC (iOp_ok fun _ _ => rfl) ha hb
theorem xe_pow (ha : EX X a m1 f) (hb : EX X b m2 g) : EX X (.BinOp a .Pow b pos) (m1 || m2) (pBin pPow m2 f g) := xe_op op_powC (iOp_ok fun _ _ => rfl) ha hb
end
noncomputable def UnOk (K : PySem.W.Frag) (r : V → Hp → VK → Prop) (op : PyData → Option PyData) : Prop := ∀ (d1 d : PyData) (v1 : V) (H : Hp) (Q : VK), op d1 = some d → Rp K H v1 d1 → ∃ v, ofD d = some v ∧ (Q v H → r v1 H Q)
noncomputable def pUn (op : PyData → Option PyData) (f : PEv) : PEv := fun E => (f E).bind fun a => (look a.2 a.1).bind fun d1 => (op d1).map fun d => (.sh d, a.2)
theorem rd_un {K : PySem.W.Frag} {r : V → Hp → VK → Prop} {op : PyData → Option PyData} (hp : UnOk K r op) {m : Bool} {f : PEv} {σ : SgT} {H : Hp} {Q : VK} (h : rd K m (pUn op f) σ H Q) : rd K m f σ H (fun x H1 => r x H1 Q) := by
  obtain ⟨B, E, xs, Xs, res, E', fr, c, e, q⟩ := h
  obtain ⟨⟨s1, E1⟩, e1, e⟩ := Option.bind_eq_some_iff.mp e
  obtain ⟨d1, e2, e⟩ := Option.bind_eq_some_iff.mp e
  obtain ⟨d, e3, e⟩ := Option.map_eq_some_iff.mp e
  cases e
  refine ⟨B, E, xs, Xs, s1, E1, fr, c, e1, fun v1 H1 ⟨F, A, fr1⟩ => ?_⟩
  obtain ⟨v, hv, k⟩ := hp d1 d v1 H1 Q e3 (fr1.look0 e2).1
  obtain ⟨A', fr2⟩ := fr1.pop
  exact k (q v H1 ⟨F, A', fr2.push ⟨rfl, v, rfl, ofD_rp hv⟩⟩)
noncomputable def dNeg : PyData → Option PyData
  | .int i => some (.int (-i))
  | _ => none
noncomputable def dNot : PyData → Option PyData
  | .bool b => some (.bool (!b))
  | _ => none
section
variable {X : Cx} {a b c : Expr} {m1 m2 m3 : Bool} {f g h : PEv} {pos : Pos}
theorem xe_neg (ha : EX X a m1 f) : EX X (.UnaryOp .USub a pos) m1 (pUn dNeg f) := pe_imp (pe_un un_neg ha) fun σ H Q h => rd_un (r := rU fun i => .int (-i)) (fun d1 d v1 H Q e r => by
  cases d1 <;> simp [dNeg] at e
  cases e; cases r
  exact ⟨_, rfl, fun q => ⟨_, rfl, q⟩⟩) h
theorem xe_not (ha : EX X a m1 f) : EX X (.UnaryOp .Not a pos) m1 (pUn dNot f) := pe_imp (pe_not ha) fun σ H Q h => rd_un (r := fun x H1 Q => ∃ c, x = .bl c ∧ Q (.bl (!c)) H1) (fun d1 d v1 H Q e r => by
  cases d1 <;> simp [dNot] at e
  cases e; cases r
  exact ⟨_, rfl, fun q => ⟨_, rfl, q⟩⟩) h
end
noncomputable def dEq (d1 d2 : PyData) : Option Bool := match d1, d2 with
  | .int i, .int j => some (decide (i = j))
  | .str a, .str b => some (decide (a = b))
  | .bool a, .bool b => some (decide (a = b))
  | .none, .none => some true
  | .none, .str _ => some false
  | .str _, .none => some false
  | d1, d2 => if SeqAt.shaped d1 && SeqAt.shaped d2 then some (PyData.eqv d1 d2) else none
noncomputable def pEq : P2 := sc2 fun d1 d2 => (dEq d1 d2).map fun b => .bool b
noncomputable def pNe : P2 := sc2 fun d1 d2 => (dEq d1 d2).map fun b => .bool (!b)
noncomputable abbrev rEqU (K : PySem.W.Frag) : R2 := fun x y H Q => rEq x y H Q ∨ rEqD K x y H Q
noncomputable abbrev rNeU (K : PySem.W.Frag) : R2 := fun x y H Q => rNe x y H Q ∨ rNeD K x y H Q
theorem dEq_ok {K : PySem.W.Frag} {H : Hp} {v1 v2 : V} {d1 d2 : PyData} {b : Bool} (e : dEq d1 d2 = some b) (r1 : Rp K H v1 d1) (r2 : Rp K H v2 d2) :
    (scal v1 v2 = true ∧ decide (v1 = v2) = b) ∨ (DOf K H v1 d1 ∧ DOf K H v2 d2 ∧ SeqAt.shaped d1 = true ∧ SeqAt.shaped d2 = true ∧ PyData.eqv d1 d2 = b) := by
  unfold dEq at e
  split at e
  · cases e; cases r1; cases r2; exact .inl ⟨rfl, by simp⟩
  · cases e; cases r1; cases r2; exact .inl ⟨rfl, by simp⟩
  · cases e; cases r1; cases r2; exact .inl ⟨rfl, by simp⟩
  · cases e; cases r1; cases r2; exact .inl ⟨rfl, rfl⟩
  · cases e; cases r1; cases r2; exact .inl ⟨rfl, rfl⟩
  · cases e; cases r1; cases r2; exact .inl ⟨rfl, rfl⟩
  · split at e
    · rename_i hs
      cases e
      simp only [Bool.and_eq_true] at hs
      exact .inr ⟨r1.dof hs.1, r2.dof hs.2, hs.1, hs.2, rfl⟩
    · cases e
theorem pEq_ok {K : PySem.W.Frag} : BinOk K (rEqU K) pEq := sc2_ok fun d1 d2 d v1 v2 H Q e r1 r2 => by
  obtain ⟨b, e', rfl⟩ := Option.map_eq_some_iff.mp e
  refine ⟨_, rfl, fun q => ?_⟩
  rcases dEq_ok e' r1 r2 with ⟨a, rfl⟩ | ⟨a1, a2, a3, a4, rfl⟩
  · exact .inl ⟨a, q⟩
  · exact .inr ⟨_, _, a1, a2, a3, a4, q⟩
theorem pNe_ok {K : PySem.W.Frag} : BinOk K (rNeU K) pNe := sc2_ok fun d1 d2 d v1 v2 H Q e r1 r2 => by
  obtain ⟨b, e', rfl⟩ := Option.map_eq_some_iff.mp e
  refine ⟨_, rfl, fun q => ?_⟩
  rcases dEq_ok e' r1 r2 with ⟨a, rfl⟩ | ⟨a1, a2, a3, a4, rfl⟩
  · exact .inl ⟨a, q⟩
  · exact .inr ⟨_, _, a1, a2, a3, a4, q⟩
noncomputable def ScOk (K : PySem.W.Frag) (r : R2) (op : PyData → PyData → Option PyData) : Prop := ∀ (d1 d2 d : PyData) (v1 v2 : V) (H : Hp) (Q : VK), op d1 d2 = some d → Rp K H v1 d1 → Rp K H v2 d2 → ∃ v, ofD d = some v ∧ (Q v H → r v1 v2 H Q)
noncomputable def pChain (op op' : PyData → PyData → Option PyData) (m2 m3 : Bool) (f g h : PEv) : PEv := fun E => (f E).bind fun a => if (m2 || m3) && a.1.isBr then none else (g a.2).bind fun b => if m3 && b.1.isBr then none else
  (look b.2 a.1).bind fun d1 => (look b.2 b.1).bind fun d2 => match op d1 d2 with
    | some (.bool true) => (h b.2).bind fun c => (look c.2 b.1).bind fun d2 => (look c.2 c.1).bind fun d3 => (op' d2 d3).map fun d => (.sh d, c.2)
    | some (.bool false) => some (.sh (.bool false), b.2)
    | _ => none
section
variable {X : Cx} {a b c : Expr} {m1 m2 m3 : Bool} {f g h : PEv} {pos : Pos}
theorem xe_eq (hu : X.A.units + 64 < cLine) (ha : EX X a m1 f) (hb : EX X b m2 g) : EX X (.Compare a [.Eq] [b] pos) (m1 || m2) (pBin pEq m2 f g) := xe_cmp (OpR.or op_eq (op_eqD hu)) pEq_ok ha hb (nomark _)
theorem xe_ne (hu : X.A.units + 64 < cLine) (ha : EX X a m1 f) (hb : EX X b m2 g) : EX X (.Compare a [.NotEq] [b] pos) (m1 || m2) (pBin pNe m2 f g) := xe_cmp (OpR.or op_ne (op_neD hu)) pNe_ok ha hb (nomark _)
theorem xt_eq (hu : X.A.units + 64 < cLine) (ha : EX X a m1 f) (hb : EX X b m2 g) : TX X (.Compare a [.Eq] [b] pos) (m1 || m2) (isB (pBin pEq m2 f g)) := xt_cmp (OpR.or op_eq (op_eqD hu)) pEq_ok ha hb (nomark _)
theorem xt_ne (hu : X.A.units + 64 < cLine) (ha : EX X a m1 f) (hb : EX X b m2 g) : TX X (.Compare a [.NotEq] [b] pos) (m1 || m2) (isB (pBin pNe m2 f g)) := xt_cmp (OpR.or op_ne (op_neD hu)) pNe_ok ha hb (nomark _)
theorem rd_chain {K : PySem.W.Frag} {r r' : R2} {op op' : PyData → PyData → Option PyData} (k : ScOk K r op) (k' : ScOk K r' op') {σ : SgT} {H : Hp} {Q : VK} (z : rd K (m1 || (m2 || m3)) (pChain op op' m2 m3 f g h) σ H Q) : tChain r r' (rd K m1 f) (rd K m2 g) (rd K m3 h) σ H Q := by
  obtain ⟨B, E, xs, Xs, res, E', fr, cl, e, q⟩ := z
  obtain ⟨⟨s1, E1⟩, e1, e⟩ := Option.bind_eq_some_iff.mp e
  by_cases hb : ((m2 || m3) && s1.isBr) = true
  · rw [if_pos hb] at e; cases e
  rw [if_neg hb] at e
  obtain ⟨⟨s2, E2⟩, e2, e⟩ := Option.bind_eq_some_iff.mp e
  by_cases hb2 : (m3 && s2.isBr) = true
  · rw [if_pos hb2] at e; cases e
  rw [if_neg hb2] at e
  obtain ⟨d1, l1, e⟩ := Option.bind_eq_some_iff.mp e
  obtain ⟨d2, l2, e⟩ := Option.bind_eq_some_iff.mp e
  have n1 : (m2 || m3) = true → s1.isBr = false := fun z => by
    cases hs : s1.isBr with
    | false => rfl
    | true => exact absurd (by rw [z, hs]; rfl) hb
  have n2 : m3 = true → s2.isBr = false := fun z => by
    cases hs : s2.isBr with
    | false => rfl
    | true => exact absurd (by rw [z, hs]; rfl) hb2
  refine ⟨B, E, xs, Xs, s1, E1, fr, fun z => cl (by simp [z]), e1, fun v1 H1 fr1 => ?_⟩
  refine ⟨B, E1, v1 :: xs, s1 :: Xs, s2, E2, fr1, fun z => Calm.cons (cl (by simp [z])) (n1 (by simp [z])), e2, fun v2 H2 ⟨F, A, fr2⟩ => ?_⟩
  cases ho : op d1 d2 with
  | none => rw [ho] at e; cases e
  | some d =>
    rw [ho] at e
    obtain ⟨v, hv, kk⟩ := k d1 d2 d v1 v2 H2 (fun z H3 => ∃ k, z = .bl k ∧ (if k = true then rd K m3 h σ H3 fun w' H4 => r' v2 w' H4 Q else Q (.bl false) H3)) ho (fr2.look1 l1).1 (fr2.look0 l2).1
    cases d with
    | bool t =>
      cases hv
      refine kk ⟨t, rfl, ?_⟩
      cases t with
      | true =>
        rw [if_pos rfl]
        obtain ⟨⟨s3, E3⟩, e3, e⟩ := Option.bind_eq_some_iff.mp e
        obtain ⟨d2', l2', e⟩ := Option.bind_eq_some_iff.mp e
        obtain ⟨d3, l3, e⟩ := Option.bind_eq_some_iff.mp e
        obtain ⟨d, ho', e⟩ := Option.map_eq_some_iff.mp e
        cases e
        refine ⟨B, E2, v2 :: v1 :: xs, s2 :: s1 :: Xs, s3, E3, ⟨F, A, fr2⟩, fun z => Calm.cons (Calm.cons (cl (by simp [z])) (n1 (by simp [z]))) (n2 z), e3, fun v3 H3 ⟨F3, A3, fr3⟩ => ?_⟩
        obtain ⟨v, hv, kk⟩ := k' d2' d3 d v2 v3 H3 Q ho' (fr3.look1 l2').1 (fr3.look0 l3).1
        obtain ⟨A4, fr4⟩ := fr3.pop
        exact kk (q v H3 (fr4.res2 ⟨rfl, v, rfl, ofD_rp hv⟩))
      | false =>
        rw [if_neg (by decide)]
        cases e
        exact q _ _ (fr2.res2 ⟨rfl, _, rfl, .bl _⟩)
    | none => cases e
    | int i => cases e
    | str x => cases e
    | list xs => cases e
    | tuple xs => cases e
    | dict kvs => cases e
theorem xe_chain {o1 o2 : CmpOp} {r r' : R2} {op op' : PyData → PyData → Option PyData} (ho : OpR X (compareOp o1) r) (ho' : OpR X (compareOp o2) r') (k : ScOk X.K r op) (k' : ScOk X.K r' op') (ha : EX X a m1 f) (hb : EX X b m2 g) (hc : EX X c m3 h)
    (hm : lastMarks [o1, o2] [b, c] = false := by with_unfolding_all rfl) : EX X (.Compare a [o1, o2] [b, c] pos) (m1 || (m2 || m3)) (pChain op op' m2 m3 f g h) := pe_imp (pe_chain ho ho' ha hb hc hm) fun _ _ _ z => rd_chain k k' z
end
end PL
namespace PL
open PySem L2 Nh
noncomputable def pAndV (f g : PEv) : PEv := fun E => (f E).bind fun a => match a.1 with
  | .sh (.bool true) => g a.2
  | .sh (.bool false) => some (.sh (.bool false), a.2)
  | _ => none
noncomputable def pOrV (f g : PEv) : PEv := fun E => (f E).bind fun a => match a.1 with
  | .sh (.bool true) => some (.sh (.bool true), a.2)
  | .sh (.bool false) => g a.2
  | _ => none
noncomputable def tAndP (f g : PTv) : PTv := fun E => (f E).bind fun a => if a.1 then g a.2 else some (false, a.2)
noncomputable def tOrP (f g : PTv) : PTv := fun E => (f E).bind fun a => if a.1 then some (true, a.2) else g a.2
noncomputable def tNotP (f : PTv) : PTv := fun E => (f E).map fun a => (!a.1, a.2)
noncomputable def pIf (c : PTv) (f g : PEv) : PEv := fun E => (c E).bind fun a => if a.1 then f a.2 else g a.2
noncomputable def dTru : PyData → Option Bool
  | .none => some false
  | .bool b => some b
  | .int i => some (i != 0)
  | .str x => if x.length ≤ 1000000 then some ((x.length : Int) != 0) else none
  | .list xs => some (!xs.isEmpty)
  | .tuple xs => some (!xs.isEmpty)
  | .dict _ => none
noncomputable def pTru (f : PEv) : PTv := fun E => (f E).bind fun a => match a.1 with
  | .al i => match a.2[i]? with
    | some (.od kvs) => some (!kvs.isEmpty, a.2)
    | some s => (s.val.bind dTru).map fun b => (b, a.2)
    | none => none
  | s => (s.val.bind dTru).map fun b => (b, a.2)
section
variable {X : Cx} {a b c : Expr} {rest : List Expr} {m1 m2 m3 : Bool} {f g h : PEv} {t u : PTv} {pos : Pos} {K : PySem.W.Frag}
theorem xe_one {op} (h : EX X a m1 f) : EX X (.BoolOp op [a] pos) m1 f := pe_one h
theorem xe_and (ha : EX X a m1 f) (hb : EX X (.BoolOp .And (b :: rest) pos) m2 g) : EX X (.BoolOp .And (a :: b :: rest) pos) (m1 || m2) (pAndV f g) := by
  refine pe_imp (pe_and ha hb) fun σ H Q z => ?_
  obtain ⟨B, E, xs, Xs, res, E', fr, cl, e, q⟩ := z
  obtain ⟨⟨s1, E1⟩, e1, e⟩ := Option.bind_eq_some_iff.mp e
  refine ⟨B, E, xs, Xs, s1, E1, fr, fun z => cl (by simp [z]), e1, fun v1 H1 ⟨F, A, fr1⟩ => ?_⟩
  simp only at e
  split at e
  · obtain ⟨r, _⟩ := fr1.look0 (d := .bool true) rfl
    cases r
    obtain ⟨A', fr2⟩ := fr1.pop
    exact ⟨true, rfl, (if_pos rfl).mpr ⟨B, E1, xs, Xs, res, E', ⟨F, A', fr2⟩, fun z => cl (by simp [z]), e, q⟩⟩
  · cases e
    obtain ⟨r, _⟩ := fr1.look0 (d := .bool false) rfl
    cases r
    exact ⟨false, rfl, (if_neg (by decide)).mpr (q _ _ ⟨F, A, fr1⟩)⟩
  · cases e
theorem xe_or (ha : EX X a m1 f) (hb : EX X (.BoolOp .Or (b :: rest) pos) m2 g) : EX X (.BoolOp .Or (a :: b :: rest) pos) (m1 || m2) (pOrV f g) := by
  refine pe_imp (pe_or ha hb) fun σ H Q z => ?_
  obtain ⟨B, E, xs, Xs, res, E', fr, cl, e, q⟩ := z
  obtain ⟨⟨s1, E1⟩, e1, e⟩ := Option.bind_eq_some_iff.mp e
  refine ⟨B, E, xs, Xs, s1, E1, fr, fun z => cl (by simp [z]), e1, fun v1 H1 ⟨F, A, fr1⟩ => ?_⟩
  simp only at e
  split at e
  · cases e
    obtain ⟨r, _⟩ := fr1.look0 (d := .bool true) rfl
    cases r
    exact ⟨true, rfl, (if_pos rfl).mpr (q _ _ ⟨F, A, fr1⟩)⟩
  · obtain ⟨r, _⟩ := fr1.look0 (d := .bool false) rfl
    cases r
    obtain ⟨A', fr2⟩ := fr1.pop
    exact ⟨false, rfl, (if_neg (by decide)).mpr ⟨B, E1, xs, Xs, res, E', ⟨F, A', fr2⟩, fun z => cl (by simp [z]), e, q⟩⟩
  · cases e
theorem xw_and1 (ha : TX X a m1 t) : WX X (.BoolOp .And [a] pos) m1 t := pw_and1 ha
theorem xw_or1 (ha : TX X a m1 t) : WX X (.BoolOp .Or [a] pos) m1 t := pw_or1 ha
theorem xw_and (ha : TX X a m1 t) (hb : WX X (.BoolOp .And (b :: rest) pos) m2 u) : WX X (.BoolOp .And (a :: b :: rest) pos) (m1 || m2) (tAndP t u) := by
  refine pw_imp (pw_and ha hb) fun σ H Q z => ?_
  obtain ⟨B, E, xs, Xs, res, E', fr, cl, e, q⟩ := z
  obtain ⟨⟨b1, E1⟩, e1, e⟩ := Option.bind_eq_some_iff.mp e
  refine ⟨B, E, xs, Xs, b1, E1, fr, fun z => cl (by simp [z]), e1, fun H1 fr1 => ?_⟩
  cases b1 with
  | true => exact (if_pos rfl).mpr ⟨B, E1, xs, Xs, res, E', fr1, fun z => cl (by simp [z]), e, q⟩
  | false => cases e; exact (if_neg (by decide)).mpr (q _ fr1)
theorem xw_or (ha : TX X a m1 t) (hb : WX X (.BoolOp .Or (b :: rest) pos) m2 u) : WX X (.BoolOp .Or (a :: b :: rest) pos) (m1 || m2) (tOrP t u) := by
  refine pw_imp (pw_or ha hb) fun σ H Q z => ?_
  obtain ⟨B, E, xs, Xs, res, E', fr, cl, e, q⟩ := z
  obtain ⟨⟨b1, E1⟩, e1, e⟩ := Option.bind_eq_some_iff.mp e
  refine ⟨B, E, xs, Xs, b1, E1, fr, fun z => cl (by simp [z]), e1, fun H1 fr1 => ?_⟩
  cases b1 with
  | true => cases e; exact (if_pos rfl).mpr (q _ fr1)
  | false => exact (if_neg (by decide)).mpr ⟨B, E1, xs, Xs, res, E', fr1, fun z => cl (by simp [z]), e, q⟩
theorem xt_w (h : WX X a m1 t) : TX X a m1 t := PW.pt h
theorem xt_not (ha : TX X a m1 t) : TX X (.UnaryOp .Not a pos) m1 (tNotP t) := by
  refine pt_imp (pt_not ha) fun σ H Q z => ?_
  obtain ⟨B, E, xs, Xs, res, E', fr, cl, e, q⟩ := z
  obtain ⟨⟨b1, E1⟩, e1, e⟩ := Option.map_eq_some_iff.mp e
  cases e
  exact ⟨B, E, xs, Xs, b1, E1, fr, cl, e1, fun H1 fr1 => q _ fr1⟩
theorem xe_if (hc : TX X c m1 t) (ha : EX X a m2 f) (hb : EX X b m3 g) : EX X (.IfExp c a b pos) (m1 || (m2 || m3)) (pIf t f g) := by
  refine pe_imp (pe_ifExp hc ha hb) fun σ H Q z => ?_
  obtain ⟨B, E, xs, Xs, res, E', fr, cl, e, q⟩ := z
  obtain ⟨⟨b1, E1⟩, e1, e⟩ := Option.bind_eq_some_iff.mp e
  refine ⟨B, E, xs, Xs, b1, E1, fr, fun z => cl (by simp [z]), e1, fun H1 fr1 => ?_⟩
  cases b1 with
  | true => exact (if_pos rfl).mpr ⟨B, E1, xs, Xs, res, E', fr1, fun z => cl (by simp [z]), e, q⟩
  | false => exact (if_neg (by decide)).mpr ⟨B, E1, xs, Xs, res, E', fr1, fun z => cl (by simp [z]), e, q⟩
theorem tru_rp {H : Hp} {v : V} {d : PyData} {b : Bool} (r : Rp K H v d) (e : dTru d = some b) : TruV K v H b := by
  cases r with
  | non => cases e; rfl
  | bl b => cases e; rfl
  | int i => cases e; rfl
  | str x =>
    simp only [dTru] at e
    split at e
    · rename_i hl
      cases e
      exact ⟨smallE hl, rfl⟩
    · cases e
  | lst h r => cases e; exact .inl ⟨_, h, by cases r <;> rfl⟩
  | tup h r => cases e; exact .inr (.inl ⟨_, h, by cases r <;> rfl⟩)
  | dct h r => cases e
theorem xt_tru (ha : EX X a m1 f) (he : ∀ whole, isTrue a X.env whole = (do let v ← whole; standAt a.pos; holding [v] (truthy v)) := by exact fun _ => rfl) : TX X a m1 (pTru f) := by
  refine pt_imp (pt_truth ha he) fun σ H Q z => ?_
  obtain ⟨B, E, xs, Xs, res, E', fr, cl, e, q⟩ := z
  obtain ⟨⟨s, E1⟩, e1, e⟩ := Option.bind_eq_some_iff.mp e
  refine ⟨B, E, xs, Xs, s, E1, fr, cl, e1, fun v1 H1 ⟨F, A, fr1⟩ => ?_⟩
  have key : ∀ d, look E1 s = some d → (dTru d).map (fun b => (b, E1)) = some (res, E') → ∃ k, TruV X.K v1 H1 k ∧ Q k H1 := fun d l e => by
    obtain ⟨b, e', z⟩ := Option.map_eq_some_iff.mp e
    cases z
    obtain ⟨A', fr2⟩ := fr1.pop
    exact ⟨_, tru_rp (fr1.look0 l).1 e', q _ ⟨F, A', fr2⟩⟩
  have kv : (s.val.bind dTru).map (fun b => (b, E1)) = some (res, E') → (∀ i, s ≠ .al i) → ∃ k, TruV X.K v1 H1 k ∧ Q k H1 := fun e na => by
    obtain ⟨b, e', z⟩ := Option.map_eq_some_iff.mp e
    obtain ⟨d, e1, e2⟩ := Option.bind_eq_some_iff.mp e'
    refine key d ?_ (by rw [e2]; exact congrArg some z)
    cases s <;> first | exact e1 | exact absurd rfl (na _)
  simp only at e
  split at e
  · rename_i i
    split at e
    · rename_i kvs ei
      cases e
      obtain ⟨v', A1, ev, rfl, w, ew, hw⟩ := fr1.ext (k := 0) rfl
      cases ev; cases ew
      obtain ⟨o, A1, eo, l, us, rfl, _, hl, r⟩ := fr1.var ei
      rw [hw] at eo
      cases eo
      obtain ⟨A', fr2⟩ := fr1.pop
      exact ⟨_, .inr (.inr ⟨_, hl, by cases r <;> rfl⟩), q _ ⟨F, A', fr2⟩⟩
    · rename_i s' _ ei
      obtain ⟨b, e', z⟩ := Option.map_eq_some_iff.mp e
      obtain ⟨d, e1, e2⟩ := Option.bind_eq_some_iff.mp e'
      exact key d (by simp [look, ei, e1]) (by rw [e2]; exact congrArg some z)
    · cases e
  · rename_i na
    exact kv e na
end
theorem xt_chain {X : Cx} {a b c : Expr} {m1 m2 m3 : Bool} {f g h : PEv} {pos : Pos} {o1 o2 : CmpOp} {r r' : R2} {op op' : PyData → PyData → Option PyData} (ho : OpR X (compareOp o1) r) (ho' : OpR X (compareOp o2) r') (k : ScOk X.K r op) (k' : ScOk X.K r' op') (ha : EX X a m1 f) (hb : EX X b m2 g) (hc : EX X c m3 h)
    (hm : lastMarks [o1, o2] [b, c] = false := by with_unfolding_all rfl) : TX X (.Compare a [o1, o2] [b, c] pos) (m1 || (m2 || m3)) (isB (pChain op op' m2 m3 f g h)) := pt_imp (pt_chain ho ho' ha hb hc hm) fun _ _ _ z => rd_chain k k' (rt_isB z)
noncomputable def aNil : PAv := fun E => some ([], E)
noncomputable def aCons (m2 : Bool) (f : PEv) (g : PAv) : PAv := fun E => (f E).bind fun a => if m2 && a.1.isBr then none else (g a.2).map fun b => (a.1 :: b.1, b.2)
noncomputable def dNil : PDv := fun E => some ([], E)
noncomputable def dCons (f : PEv) (g : PDv) : PDv := fun E => (f E).bind fun a => (frz a.2 a.1).bind fun b => (g b.2).map fun c => (b.1 :: c.1, c.2)
noncomputable def pTup (f : PDv) : PEv := fun E => (f E).bind fun a => if a.1.length ≤ 1000000 then some (.sh (.tuple a.1), a.2) else none
noncomputable def pLst (f : PDv) : PEv := fun E => (f E).bind fun a => if a.1.length ≤ 1000000 then some (.ow a.1, a.2) else none
section
variable {X : Cx} {e : Expr} {es : List Expr} {m1 m2 : Bool} {f : PEv} {g : PAv} {d : PDv} {pos : Pos} {K : PySem.W.Frag}
theorem xa_nil : AX X [] false aNil := by
  refine pa_imp pa_nil fun σ H Q z => ?_
  obtain ⟨B, E, xs, Xs, res, E', fr, cl, e, q⟩ := z
  cases e
  exact q [] H rfl fr
theorem xa_cons (ha : EX X e m1 f) (hr : AX X es m2 g) (hs : starEach (e :: es) X.env = (false, eval e X.env) :: starEach es X.env := by rfl) : AX X (e :: es) (m1 || m2) (aCons m2 f g) := by
  refine pa_imp (pa_cons ha hr hs) fun σ H Q z => ?_
  obtain ⟨B, E, xs, Xs, res, E', fr, cl, e, q⟩ := z
  obtain ⟨⟨s, E1⟩, e1, e⟩ := Option.bind_eq_some_iff.mp e
  by_cases hb : (m2 && s.isBr) = true
  · rw [if_pos hb] at e; cases e
  rw [if_neg hb] at e
  obtain ⟨⟨rs, E2⟩, e2, e⟩ := Option.map_eq_some_iff.mp e
  cases e
  refine ⟨B, E, xs, Xs, s, E1, fr, fun z => cl (by simp [z]), e1, fun v1 H1 fr1 => ?_⟩
  refine ⟨B, E1, v1 :: xs, s :: Xs, rs, E2, fr1, fun z => Calm.cons (cl (by simp [z])) ?_, e2, fun vs H2 hl fr2 => ?_⟩
  · cases hs : s.isBr with
    | false => rfl
    | true => exact absurd (by simp [z, hs]) hb
  · exact q (v1 :: vs) H2 (by simp [hl]) (by simpa using fr2)
theorem xd_nil : DX X [] false dNil := by
  refine pa_imp pa_nil fun σ H Q z => ?_
  obtain ⟨B, E, xs, Xs, res, E', fr, cl, e, q⟩ := z
  cases e
  exact q [] H rfl fr
theorem xd_cons (ha : EX X e m1 f) (hr : DX X es m2 d) (hs : starEach (e :: es) X.env = (false, eval e X.env) :: starEach es X.env := by rfl) : DX X (e :: es) (m1 || m2) (dCons f d) := by
  refine pa_imp (pa_cons ha hr hs) fun σ H Q z => ?_
  obtain ⟨B, E, xs, Xs, res, E', fr, cl, e, q⟩ := z
  obtain ⟨⟨s, E1⟩, e1, e⟩ := Option.bind_eq_some_iff.mp e
  obtain ⟨⟨d1, E2⟩, e2, e⟩ := Option.bind_eq_some_iff.mp e
  obtain ⟨⟨rs, E3⟩, e3, e⟩ := Option.map_eq_some_iff.mp e
  cases e
  refine ⟨B, E, xs, Xs, s, E1, fr, fun z => cl (by simp [z]), e1, fun v1 H1 ⟨F, A, fr1⟩ => ?_⟩
  obtain ⟨F2, A2, fr2⟩ := fr1.frz0 e2
  refine ⟨B, E2, v1 :: xs, .sh d1 :: Xs, rs, E3, ⟨F2, A2, fr2⟩, fun z => Calm.cons (cl (by simp [z])) rfl, e3, fun vs H2 hl fr2 => ?_⟩
  exact q (v1 :: vs) H2 (by simp [hl]) (by simpa using fr2)
theorem FrF.shsR {B F : Hp} {σ : SgT} {H : Hp} {E : List Sl} {xs : List V} {Xs : List Sl} : ∀ {us : List V} {es : List PyData} {A : List Addr}, us.length = es.length → FrF K B F A σ H E (us ++ xs) (es.map .sh ++ Xs) → RpA K F us es ∧ ∃ A', FrF K B F A' σ H E xs Xs
  | [], [], A, _, h => ⟨.nil, A, h⟩
  | u :: us, e :: es, A, hl, h => by
    obtain ⟨v, A1, ev, rfl, w, ew, r⟩ := h.ext (k := 0) rfl
    cases ev; cases ew
    obtain ⟨A', h'⟩ := FrF.pop (xs := us ++ xs) (Xs := es.map .sh ++ Xs) h
    obtain ⟨r', q⟩ := FrF.shsR (by simpa using hl) h'
    exact ⟨.cons r r', q⟩
  | [], _ :: _, _, e, _ => by cases e
  | _ :: _, [], _, e, _ => by cases e
theorem FrF.shs {B F : Hp} {σ : SgT} {H : Hp} {E : List Sl} {xs : List V} {Xs : List Sl} {us : List V} {es : List PyData} {A : List Addr} (hl : us.length = es.length) (h : FrF K B F A σ H E (us.reverse ++ xs) (es.reverse.map .sh ++ Xs)) : RpA K F us es ∧ ∃ A', FrF K B F A' σ H E xs Xs := by
  obtain ⟨r, q⟩ := FrF.shsR (by simpa using hl) h
  have := r.rev
  rw [List.reverse_reverse, List.reverse_reverse] at this
  exact ⟨this, q⟩
theorem xe_tup {x1} (h : DX X es m1 d) : EX X (.Tuple es x1 pos) m1 (pTup d) := by
  refine pe_imp (pe_tup h) fun σ H Q z => ?_
  obtain ⟨B, E, xs, Xs, res, E', fr, cl, e, q⟩ := z
  obtain ⟨⟨ds, E1⟩, e1, e⟩ := Option.bind_eq_some_iff.mp e
  simp only at e
  split at e
  · rename_i hl
    cases e
    refine ⟨B, E, xs, Xs, ds, _, fr, cl, e1, fun vs H1 hv ⟨F, A, fr1⟩ => ?_⟩
    obtain ⟨r, A', fr2⟩ := fr1.shs hv
    exact ⟨smallE (by omega), fun p hp => q _ _ ⟨_, _, fr2.newt r hp⟩⟩
  · cases e
theorem xe_lst (h : DX X es m1 d) : EX X (.List es pos) m1 (pLst d) := by
  refine pe_imp (pe_lst h) fun σ H Q z => ?_
  obtain ⟨B, E, xs, Xs, res, E', fr, cl, e, q⟩ := z
  obtain ⟨⟨ds, E1⟩, e1, e⟩ := Option.bind_eq_some_iff.mp e
  simp only at e
  split at e
  · rename_i hl
    cases e
    refine ⟨B, E, xs, Xs, ds, _, fr, cl, e1, fun vs H1 hv ⟨F, A, fr1⟩ => ?_⟩
    obtain ⟨r, A', fr2⟩ := fr1.shs hv
    exact ⟨smallE (by omega), fun p hp => q _ _ ⟨_, _, fr2.newl r hp⟩⟩
  · cases e
end
noncomputable def cutD (ds : List PyData) (lo hi : Option Int) : List PyData := (ds.drop (HT.sIx ds.length 0 lo)).take (HT.sIx ds.length ds.length hi - HT.sIx ds.length 0 lo)
noncomputable def pIx : P2 := fun E s1 s2 => (look E s1).bind fun d1 => (look E s2).bind fun d2 => match d2 with
  | .int i => match d1 with
    | .list ds => (atI ds i).map fun d => (if hot E s1 && !flat d then .br d else .sh d, E)
    | .tuple ds => (atI ds i).map fun d => (if hot E s1 && !flat d then .br d else .sh d, E)
    | .str z => if z.length ≤ 1000000 then (atI z.cps.toList i).map fun c => (.sh (.str ⟨#[c]⟩), E) else none
    | _ => none
  | _ => none
section
variable {K : PySem.W.Frag} {H : Hp}
theorem RpA.atI {vs : List V} {ds : List PyData} {i : Int} {d : PyData} (h : RpA K H vs ds) (e : L2.atI ds i = some d) : ∃ v, L2.atI vs i = some v ∧ Rp K H v d := by
  unfold L2.atI at e ⊢
  obtain ⟨j, e1, e2⟩ := Option.bind_eq_some_iff.mp e
  obtain ⟨v, ev, r⟩ := h.get e2
  exact ⟨v, by rw [h.len, e1]; exact ev, r⟩
theorem FrF.item {B F : Hp} {A : List Addr} {σ : SgT} {E : List Sl} {xs : List V} {Xs : List Sl} {v1 v2 v : V} {s1 s2 : Sl} {d : PyData} (fr : FrF K B F A σ H E (v2 :: v1 :: xs) (s2 :: s1 :: Xs)) (r : Rp K H v d) (f : hot E s1 = false → Rp K F v d) :
    Frm K B σ H E (v :: xs) ((if hot E s1 && !flat d then .br d else .sh d) :: Xs) := by
  by_cases hc : (hot E s1 && !flat d) = true
  · rw [if_pos hc]
    exact fr.res2 ⟨rfl, v, rfl, r⟩
  · rw [if_neg hc]
    refine fr.res2 ⟨rfl, v, rfl, ?_⟩
    cases hh : hot E s1 with
    | false => exact f hh
    | true =>
      rw [hh] at hc
      exact fr.cold r (by simpa using hc)
theorem pIx_ok : BinOk K (rIx K) pIx := by
  intro B F A σ H E xs Xs v1 v2 s1 s2 res E' Q fr e q
  obtain ⟨d1, e1, e⟩ := Option.bind_eq_some_iff.mp e
  obtain ⟨d2, e2, e⟩ := Option.bind_eq_some_iff.mp e
  obtain ⟨r1, f1⟩ := fr.look1 e1
  have r2 := (fr.look0 e2).1
  split at e
  · cases r2
    split at e
    · obtain ⟨d, ed, e⟩ := Option.map_eq_some_iff.mp e
      cases e
      cases hh : hot E s1 with
      | false =>
        obtain ⟨a, vs, rfl, h1, h2⟩ := f1 hh
        obtain ⟨v, ev, rv⟩ := h2.atI ed
        have z := fr.item (rv.same fr.fh) fun _ => rv
        rw [hh] at z q
        exact .inl ⟨_, _, _, v, rfl, rfl, h1, ev, q _ _ z⟩
      | true =>
        cases r1 with
        | lst h1 h2 =>
          obtain ⟨v, ev, rv⟩ := h2.atI ed
          have z := fr.item rv fun h => absurd (hh.symm.trans h) (by decide)
          rw [hh] at z q
          exact .inl ⟨_, _, _, v, rfl, rfl, h1, ev, q _ _ z⟩
    · obtain ⟨d, ed, e⟩ := Option.map_eq_some_iff.mp e
      cases e
      cases hh : hot E s1 with
      | false =>
        have h0 : Rp K F v1 _ := f1 hh
        cases h0 with
        | tup h1 h2 =>
          obtain ⟨v, ev, rv⟩ := h2.atI ed
          have z := fr.item (rv.same fr.fh) fun _ => rv
          rw [hh] at z q
          exact .inr (.inl ⟨_, _, _, v, rfl, rfl, fr.fh.tup h1, ev, q _ _ z⟩)
      | true =>
        cases r1 with
        | tup h1 h2 =>
          obtain ⟨v, ev, rv⟩ := h2.atI ed
          have z := fr.item rv fun h => absurd (hh.symm.trans h) (by decide)
          rw [hh] at z q
          exact .inr (.inl ⟨_, _, _, v, rfl, rfl, h1, ev, q _ _ z⟩)
    · split at e
      · rename_i hl
        obtain ⟨c, ec, e⟩ := Option.map_eq_some_iff.mp e
        cases e; cases r1
        exact .inr (.inr ⟨_, _, c, rfl, rfl, smallE hl, ec, q _ _ (fr.res2 ⟨rfl, _, rfl, .str _⟩)⟩)
      · cases e
    · cases e
  · cases e
end
end PL
namespace L2
open PySem PySem.Spec PyProof.Rows
section
variable {κ : Type} [DecidableEq κ]
noncomputable def valV (kvs : List (κ × V)) (k : κ) : Option V := (kvs.find? fun kv => decide (kv.1 = k)).map (·.2)
noncomputable def putK (kvs : List (κ × V)) (k : κ) (v : V) : List (κ × V) :=
  if (kvs.any fun kv => decide (kv.1 = k)) = true then kvs.map (fun kv => if kv.1 = k then (kv.1, v) else kv) else kvs ++ [(k, v)]
theorem valV_pos {p : κ × V} {r : List (κ × V)} {k : κ} (e : p.1 = k) : valV (p :: r) k = some p.2 := by simp [valV, List.find?_cons, e]
theorem valV_neg {p : κ × V} {r : List (κ × V)} {k : κ} (e : ¬ p.1 = k) : valV (p :: r) k = valV r k := by simp [valV, List.find?_cons, e]
theorem valV_any (k : κ) : ∀ kvs : List (κ × V), (kvs.any fun kv => decide (kv.1 = k)) = (valV kvs k).isSome
  | [] => rfl
  | p :: r => by
    rw [List.any_cons]
    by_cases e : p.1 = k
    · simp only [valV_pos e, decide_eq_true e, Bool.true_or, Option.isSome_some]
    · rw [valV_neg e, decide_eq_false e, Bool.false_or]; exact valV_any k r
theorem length_putK (kvs : List (κ × V)) (k : κ) (v : V) : (putK kvs k v).length ≤ kvs.length + 1 := by
  unfold putK
  split
  · rw [List.length_map]; omega
  · rw [List.length_append, List.length_cons, List.length_nil]; omega
theorem putK_new {kvs : List (κ × V)} {k : κ} (v : V) (h : valV kvs k = none) : putK kvs k v = kvs ++ [(k, v)] := by
  unfold putK
  rw [valV_any, h]
  exact if_neg (by decide)
theorem RelO.getD {o : Option V} {u : Option Value} {d : V} {d' : Value} (r : RelO o u) (rd : RelV d d') : RelV (o.getD d) (u.getD d') := by
  cases o with
  | none => cases u with
    | none => exact rd
    | some _ => exact (show False from r).elim
  | some _ => cases u with
    | none => exact (show False from r).elim
    | some _ => exact r
theorem KV.val {kvs : List (κ × V)} {vs : List (κ × Value)} (r : KV kvs vs) (k : κ) : RelO (valV kvs k) (valueAt vs k) := by
  unfold KV at r
  induction r with
  | nil => exact True.intro
  | @cons p q ps qs h t ih =>
    obtain ⟨h1, h2⟩ := h
    by_cases e : p.1 = k
    · have e' : q.1 = k := h1.symm.trans e
      have b : valueAt (q :: qs) k = some q.2 := by simp [valueAt, List.find?_cons, e']
      rw [valV_pos e, b]; exact h2
    · have e' : ¬ q.1 = k := fun z => e (h1.trans z)
      have b : valueAt (q :: qs) k = valueAt qs k := by simp [valueAt, List.find?_cons, e']
      rw [valV_neg e, b]; exact ih
theorem KV.any {kvs : List (κ × V)} {vs : List (κ × Value)} (r : KV kvs vs) (k : κ) : (kvs.any fun kv => decide (kv.1 = k)) = vs.any fun kv => decide (kv.1 = k) := by
  unfold KV at r
  induction r with
  | nil => rfl
  | cons h t ih => rw [List.any_cons, List.any_cons, ih, h.1]
theorem KV.repl {kvs : List (κ × V)} {vs : List (κ × Value)} (r : KV kvs vs) (k : κ) {y : V} {u : Value} (ry : RelV y u) :
    KV (kvs.map fun kv => if kv.1 = k then (kv.1, y) else kv) (vs.map fun kv => if kv.1 = k then (kv.1, u) else kv) := by
  unfold KV at r ⊢
  induction r with
  | nil => exact .nil
  | @cons p q ps qs h t ih =>
    rw [List.map_cons, List.map_cons]
    refine .cons ?_ ih
    obtain ⟨h1, h2⟩ := h
    by_cases e : p.1 = k
    · rw [if_pos e, if_pos (h1.symm.trans e)]; exact ⟨h1, ry⟩
    · rw [if_neg e, if_neg (fun z => e (h1.trans z))]; exact ⟨h1, h2⟩
theorem KV.put {kvs : List (κ × V)} {vs : List (κ × Value)} (r : KV kvs vs) (k : κ) {y : V} {u : Value} (ry : RelV y u) : KV (putK kvs k y) (stored vs k u) := by
  unfold putK stored
  rw [r.any k]
  by_cases e : (vs.any fun kv => decide (kv.1 = k)) = true
  · rw [if_pos e, if_pos e]; exact r.repl k ry
  · rw [if_neg e, if_neg e]; exact Paired.snoc r ⟨rfl, ry⟩
theorem KV.length {kvs : List (κ × V)} {vs : List (κ × Value)} (r : KV kvs vs) : kvs.length = vs.length := Paired.length r
end
theorem kV_is {P : Program} {w : World} {k : Key} {u : Value} (r : RelV (kV k) u) : (mixKind P w).is k u = true := by
  cases k with
  | inl i => obtain ⟨t, e⟩ := (show ∃ t, u = Value.int i t from r); subst e; exact mixKind_int P w i t
  | inr x => obtain ⟨t, e⟩ := (show ∃ t, u = Value.str x t from r); subst e; exact mixKind_str P w x t
theorem items_are {P : Program} {w : World} : ∀ {ks : List Key} {us : List Value}, Vals (ks.map kV) us → ItemsAre (mixKind P w) ks us
  | [], _, r => by rw [List.map_nil] at r; cases r; exact .nil
  | k :: ks, _, r => by
    rw [List.map_cons] at r
    cases r with
    | cons h t => exact .cons (kV_is h) (items_are t)
noncomputable abbrev KT (H : Hp) : List (List Key × V) → List (List Key × Addr × Value) → Prop := Paired fun p q => p.1 = q.1 ∧ H q.2.1 = some (.tup (p.1.map kV)) ∧ RelV p.2 q.2.2
theorem KT.val {H : Hp} {kvs : List (List Key × V)} {xs : List (List Key × Addr × Value)} (r : KT H kvs xs) (k : List Key) : RelO (valV kvs k) ((atKey xs k).map (·.2)) := by
  induction r with
  | nil => exact True.intro
  | @cons p q ps qs h t ih =>
    obtain ⟨h1, _, h2⟩ := h
    by_cases e : p.1 = k
    · have e' : q.1 = k := h1.symm.trans e
      have b : atKey (q :: qs) k = some q.2 := by simp [atKey, List.find?_cons, e']
      rw [valV_pos e, b]; exact h2
    · have e' : ¬ q.1 = k := fun z => e (h1.trans z)
      have b : atKey (q :: qs) k = atKey qs k := by simp [atKey, List.find?_cons, e']
      rw [valV_neg e, b]; exact ih
theorem KT.keeps {H H' : Hp} {kvs : List (List Key × V)} {xs : List (List Key × Addr × Value)} (r : KT H kvs xs) (ht : ∀ b ys, H b = some (.tup ys) → H' b = some (.tup ys)) : KT H' kvs xs :=
  Paired.mapP r fun _ _ z => ⟨z.1, ht _ _ z.2.1, z.2.2⟩
section
variable {P : Program} {w : World} {H : Hp} {h : Heap} {a : Addr}
theorem rd_of {u : HO} (ok : HOk P w H h) (e : Rd H a u) : ObjOk P w H h a u := e.ok ok
theorem dk_rd {kvs : List (Key × V)} (ok : HOk P w H h) (e : Rd H a (.dK kvs)) : kvs.length ≤ sizeLine ∧ (a == sysModules) = false ∧ ∃ vs, KV kvs vs ∧ h.DictOf (mixKind P w) a vs :=
  show ObjOk P w H h a (.dK kvs) from rd_of ok e
theorem dk_of {kvs : List (Key × V)} (ok : HOk P w H h) (e : H a = some (.dK kvs)) : kvs.length ≤ sizeLine ∧ (a == sysModules) = false ∧ ∃ vs, KV kvs vs ∧ h.DictOf (mixKind P w) a vs := dk_rd ok (.inl e)
theorem key_of {ks : List Key} (ok : HOk P w H h) (e : H a = some (.tup (ks.map kV))) : (tupleKind (mixKind P w)).is h ks a := by
  obtain ⟨_, its, r, o, h1, h2, n, h3⟩ := (show ObjOk P w H h a (.tup (ks.map kV)) from ok a _ e)
  exact ⟨o, its.toArray, n, h1, h2, h3, by simpa using items_are r⟩
theorem dt_rd {kvs : List (List Key × V)} (ok : HOk P w H h) (e : Rd H a (.dT kvs)) : kvs.length ≤ sizeLine ∧ (a == sysModules) = false ∧
    ∃ xs, KT H kvs xs ∧ h.DictOfH (tupleKind (mixKind P w)) a xs := by
  obtain ⟨z, y, xs, r, o, es, ep, h1, h2, h3, h4, h5⟩ := (show ObjOk P w H h a (.dT kvs) from rd_of ok e)
  refine ⟨z, y, xs, r, o, es, ep, h1, h2, h3, h4, fun x hx => ?_, h5⟩
  have all : ∀ {l : List (List Key × V)} {m : List (List Key × Addr × Value)}, KT H l m → ∀ x ∈ m, (tupleKind (mixKind P w)).is h x.1 x.2.1 := by
    intro l m q
    induction q with
    | nil => intro x hx; exact nomatch hx
    | @cons p q ps qs hq t ih =>
      intro x hx
      rcases List.mem_cons.mp hx with e | hx
      · subst e
        exact key_of ok (by rw [← hq.1]; exact hq.2.1)
      · exact ih x hx
  exact all r x hx
end
noncomputable def DGet (H : Hp) (a : Addr) (y : V) (r : Option V) : Prop :=
  (∃ kvs k, Rd H a (.dK kvs) ∧ y = kV k ∧ r = valV kvs k) ∨ ∃ kvs k b, Rd H a (.dT kvs) ∧ y = .ref b ∧ H b = some (.tup (k.map kV)) ∧ r = valV kvs k
section
variable {X : Cx} {pins : List (Addr × Obj)} {σ : St} {H : Hp} {s : Shared} {a : Addr} {y v : V} {u r : Value} {o : Option V} {A : Around} {E : Value → Shared → Prop}
theorem Inv.big (I : Inv X pins σ H s) : sysModules < s.heap.objs.size := by
  have h : mainGlobals < s.heap.objs.size := (I.mod.glob.keeps I.bk).lt
  exact Nat.lt_trans (by decide) h
theorem d_write {h' : Heap} {t' : Nat} {ob : HO} (I : Inv X pins σ H s) (mu : Mut (H a)) (hs : Heap.SameBut a s.heap h') (he : ∃ q, h'.get? a = some q) (new : ObjOk X.prog X.w (upd H a ob) h' a ob) :
    Inv X pins σ (upd H a ob) { s with heap := h', toks := t' } :=
  I.write (x := a) (e := a) mu (.inl rfl) (fun b q hb z => (hs.2 b hb).trans z) he new
theorem dk_new {P : Program} {w : World} {H' : Hp} {h' : Heap} {kvs : List (Key × V)} {vs : List (Key × Value)} (z : kvs.length ≤ sizeLine) (hd : (a == sysModules) = false) (rel : KV kvs vs) (dd : h'.DictOf (mixKind P w) a vs) :
    ObjOk P w H' h' a (.dK kvs) := ⟨z, hd, vs, rel, dd⟩
end
theorem dk_empty {P : Program} {w : World} {H : Hp} (h : Heap) (hb : sysModules < h.objs.size) : ObjOk P w H (h.push { cls := .type "dict", data := .dict #[] }) h.objs.size (.dK []) :=
  ⟨Nat.zero_le _, beq_eq_false_iff_ne.mpr (Ne.symm (Nat.ne_of_lt hb)), [], .nil, Heap.DictOf.new h⟩
noncomputable def tPairs : List (TE × TE) → St → Hp → (List (V × V) → Hp → Prop) → Prop
  | [], _, H, Q => Q [] H
  | (tk, tv) :: r, σ, H, Q => tk σ H fun x H1 => tv σ H1 fun y H2 => tPairs r σ H2 fun ps H3 => Q ((x, y) :: ps) H3
noncomputable abbrev VV : List (V × V) → List (Value × Value) → Prop := Paired fun p q => RelV p.1 q.1 ∧ RelV p.2 q.2
noncomputable def PPs (X : Cx) (pos : Pos) (keys : List (Option Expr)) (values : List Expr) (trs : List (TE × TE)) : Prop :=
  ∀ (pins : List (Addr × Obj)) (s : Shared) (σ : St) (H : Hp) (Q : List (V × V) → Hp → Prop), Inv X pins σ H s → tPairs trs σ H Q →
    wpAny (model X.prog X.w) X.A (evalPairs (pairTrees keys values X.env pos)) (fun vs s' => ∃ ps H', Inv X pins σ H' s' ∧ VV ps vs ∧ Q ps H') X.xe s
theorem pps_nil {X : Cx} {pos : Pos} : PPs X pos [] [] [] := fun pins s σ H Q I h => pairTrees_nil_walk ⟨[], H, I, .nil, h⟩
theorem pps_cons {X : Cx} {pos : Pos} {k v : Expr} {ks : List (Option Expr)} {vs : List Expr} {tk tv : TE} {trs : List (TE × TE)} (hk : PE X k tk) (hv : PE X v tv) (hr : PPs X pos ks vs trs) :
    PPs X pos (some k :: ks) (v :: vs) ((tk, tv) :: trs) := fun pins s σ H Q I h =>
  pairTrees_cons_walk (thn (hk pins s σ H _ I h) fun u s1 ⟨x, H1, I1, rx, q1⟩ => thn (hv pins s1 σ H1 _ I1 q1) fun w2 s2 ⟨y, H2, I2, ry, q2⟩ =>
    thn (hr pins s2 σ H2 _ I2 q2) fun ws s3 ⟨ps, H3, I3, rel, q3⟩ => ⟨(x, y) :: ps, H3, I3, .cons ⟨rx, ry⟩ rel, q3⟩)
noncomputable def mergeK (kvs more : List (Key × V)) : List (Key × V) := more.foldl (fun acc kv => putK acc kv.1 kv.2) kvs
theorem KV.merge : ∀ {more : List (Key × V)} {rs : List (Key × Value)} {kvs : List (Key × V)} {vs : List (Key × Value)}, KV more rs → KV kvs vs → KV (mergeK kvs more) (merged vs rs) := by
  intro more rs kvs vs r
  unfold KV at r
  induction r generalizing kvs vs with
  | nil => intro q; exact q
  | @cons p q ps qs h t ih =>
    intro r0
    have e : KV (putK kvs p.1 p.2) (stored vs q.1 q.2) := by
      have := r0.put p.1 h.2
      rw [← h.1]; exact this
    exact ih e
theorem length_mergeK : ∀ (more kvs : List (Key × V)), (mergeK kvs more).length ≤ kvs.length + more.length
  | [], kvs => by show kvs.length ≤ kvs.length + 0; omega
  | p :: r, kvs => by
    have h1 := length_mergeK r (putK kvs p.1 p.2)
    have h2 := length_putK kvs p.1 p.2
    show (mergeK (putK kvs p.1 p.2) r).length ≤ _
    rw [List.length_cons]; omega
theorem carries_of {P : Program} {w : World} : ∀ {kvs : List (Key × V)} {ws : List (Value × Value)}, VV (kvs.map fun kv => (kV kv.1, kv.2)) ws → ∃ rs, Carries (mixKind P w) ws rs ∧ KV kvs rs
  | [], _, r => by rw [List.map_nil] at r; cases r; exact ⟨[], True.intro, .nil⟩
  | p :: kvs, _, r => by
    rw [List.map_cons] at r
    cases r with
    | @cons a b as bs h t =>
      obtain ⟨rs, c, q⟩ := carries_of (P := P) (w := w) t
      obtain ⟨b1, b2⟩ := b
      exact ⟨(p.1, b2) :: rs, ⟨kV_is h.1, rfl, c⟩, .cons ⟨rfl, h.2⟩ q⟩
noncomputable def tDisp (trs : List (TE × TE)) : TE := fun σ H Q => ∀ p, H p = none → tPairs trs σ (upd H p (.dK [])) fun ps H2 => H2 p = some (.dK []) ∧ ∃ kvs : List (Key × V), ps = kvs.map (fun kv => (kV kv.1, kv.2)) ∧ kvs.length ≤ 15 ∧ Q (.ref p) (upd H2 p (.dK (mergeK [] kvs)))
theorem pe_disp {X : Cx} {pos : Pos} {keys : List (Option Expr)} {values : List Expr} {trs : List (TE × TE)} (h : PPs X pos keys values trs) (hall : keys.all (·.isSome) = true) (hl : keys.length = values.length) (h0 : keys ≠ [])
    (h15 : keys.length ≤ 15) : PE X (.Dict keys values pos) (tDisp trs) := by
  intro pins s σ H Q I q
  have hn := I.hok.fresh (Nat.le_refl s.heap.objs.size)
  have I1 := I.laid (a := s.heap.objs.size) (o := .dK []) (h' := s.heap.push { cls := .type "dict", data := .dict #[] }) (t' := s.toks) (fun _ _ q => Heap.get?_push_of_some _ q) (Nat.le_refl _) (dk_empty s.heap I.big)
  refine wpAny_Dict_walk (knd := mixKind X.prog X.w) hall hl h0 h15 (thn (h pins _ σ _ _ I1 (q _ hn)) fun ws s2 ⟨ps, H2, I2, rel, e, kvs, ep, lk, q2⟩ => ?_)
  subst ep
  obtain ⟨rs, c, rk⟩ := carries_of (P := X.prog) (w := X.w) rel
  obtain ⟨z, hd, vs0, r0, dd⟩ := dk_of I2.hok e
  cases r0
  refine ⟨rs, c, dd, fun h' dd' hs => ⟨.ref s.heap.objs.size, _, ?_, rfl, q2⟩⟩
  have hz : (mergeK [] kvs).length ≤ sizeLine := by
    have h1 := length_mergeK kvs []
    rw [List.length_nil] at h1
    rw [sizeLine_eq]; omega
  have he : ∃ q, h'.get? s.heap.objs.size = some q := let ⟨q, _, _, hq, _⟩ := dd'; ⟨q, hq⟩
  exact d_write I2 (by rw [e]; exact True.intro) hs he (dk_new hz hd (rk.merge .nil) dd')
structure M2 (X : Cx) (o : Expr) (m : Str) (apos : Pos) (e f : Expr) (cpos : Pos) : Prop where
  base : attributeBase o m X.env (eval o X.env) = eval o X.env
  few : ((backTo cpos (starEach [e, f] X.env)).all (fun x => !x.1) && (backToKw cpos (keywordEach [] X.env)).all (fun x => x.1.isSome)
    && decide (([e, f] : List Expr).length + ([] : List Keyword).length + (if ([] : List Keyword).isEmpty then 0 else 1) < 30)) = true
  line : (apos.endLine == cpos.line) = true
  trees : backTo cpos (starEach [e, f] X.env) = [(false, eval e X.env), (false, eval f X.env)]
noncomputable def IsD (H : Hp) (a : Addr) : Prop := (∃ kvs, Rd H a (.dK kvs)) ∨ ∃ kvs, Rd H a (.dT kvs)
theorem isD_at {X : Cx} {pins : List (Addr × Obj)} {σ : St} {H : Hp} {s : Shared} {a : Addr} (I : Inv X pins σ H s) (d : IsD H a) :
    s.TypeIs (.ref a) "dict" ∧ (∀ b, Value.ref a = .ref b → ∃ ob, s.heap.get? b = some ob ∧ ob.dict = none) ∧ (a == sysModules) = false := by
  rcases d with ⟨kvs, e⟩ | ⟨kvs, e⟩
  · obtain ⟨_, hd, vs, _, dd⟩ := dk_rd I.hok e
    refine ⟨dd.typeIs, fun b q => ?_, hd⟩
    cases q
    obtain ⟨ob, _, _, h1, h2, _⟩ := dd
    exact ⟨ob, h1, h2.2.1⟩
  · obtain ⟨_, hd, xs, _, dd⟩ := dt_rd I.hok e
    refine ⟨dd.typeIs, fun b q => ?_, hd⟩
    cases q
    obtain ⟨ob, _, _, h1, h2, _⟩ := dd
    exact ⟨ob, h1, h2.2.1⟩
section
variable {X : Cx} {pins : List (Addr × Obj)} {σ : St} {H : Hp} {s : Shared} {a : Addr} {y d : V} {u r : Value} {o : Option V} {A : Around} {E : Value → Shared → Prop}
theorem d_get2 {Q : Value → Shared → Prop} (hu : A.units + 1 < cLine) (I : Inv X pins σ H s) (g : DGet H a y o) (ry : RelV y u) (rd : RelV d r) (h : ∀ w' s', Inv X pins σ H s' → RelV (o.getD d) w' → Q w' s') :
    wpAny (model X.prog X.w) A (call (.builtin "dict.get") [.ref a, u, r]) Q E s := by
  rcases g with ⟨kvs, k, e, ey, l⟩ | ⟨kvs, k, b, e, ey, eb, l⟩
  · subst ey
    obtain ⟨z, hd, vs, rel, dd⟩ := dk_rd I.hok e
    refine call_meetsIn PySem.F.slot_dict_get dd.typeIs PySem.F.entry_dict_get (PySem.F.args_dict_get_3 _ _ _) (meets_dict_get_default (mixKind X.prog X.w) a (kV_is ry) hd r) ⟨_, dd.mapOf, h _ _ (I.tok _) ?_⟩
    rw [l]
    exact (rel.val k).getD rd
  · subst ey
    cases (show u = Value.ref b from ry)
    obtain ⟨z, hd, xs, rel, dd⟩ := dt_rd I.hok e
    refine call_meetsIn PySem.F.slot_dict_get dd.typeIs PySem.F.entry_dict_get (PySem.F.args_dict_get_3 _ _ _) (meetsH_dict_get_default (tupleKind (mixKind X.prog X.w)) a b hd r) ⟨tupleKind_room_in1 hu, k, xs, key_of I.hok eb, dd, h _ _ (I.tok _) ?_⟩
    rw [l]
    exact (rel.val k).getD rd
end
noncomputable def tDGet2 (td ty tx : TE) : TE := fun σ H Q => td σ H fun x H1 => ∃ a, x = .ref a ∧ IsD H1 a ∧ ty σ H1 fun y H2 => tx σ H2 fun z H3 => ∃ o, DGet H3 a y o ∧ Q (o.getD z) H3
section
variable {X : Cx} {o e f : Expr} {apos cpos : Pos} {td ty tx : TE}
theorem pe_dget2 (hu : X.A.units + 1 < cLine) (ho : PE X o td) (he : PE X e ty) (hf : PE X f tx) (m : M2 X o "get" apos e f cpos) : PE X (.Call (.Attribute o "get" apos) [e, f] [] cpos) (tDGet2 td ty tx) := by
  intro pins s σ H Q I h
  refine wpAny_Call_method m.base m.few m.line PySem.F.plainAttrs_dict PySem.F.slot_dict_get PySem.F.type_dict_get (thn (ho pins s σ H _ I h) fun u s1 ⟨x, H1, I1, rx, a, ex, d, q1⟩ => ?_)
  subst ex
  obtain rfl : u = Value.ref a := rx
  obtain ⟨t1, t2, _⟩ := isD_at I1 d
  refine ⟨t1, t2, ?_⟩
  rw [m.trees]
  refine Calls.callWith_builtin rfl (Calls.evalArgs_plain (Calls.spliced_cons (thn (he pins s1 σ H1 _ I1 q1) fun iv s2 ⟨y, H2, I2, ry, q2⟩ =>
    Calls.spliced_cons (thn (hf pins s2 σ H2 _ I2 q2) fun fv s3 ⟨z, H3, I3, rz, ov, g, q3⟩ => Calls.spliced_nil ?_))))
  exact d_get2 hu I3 g ry rz fun w' s4 I4 rw' => ⟨_, H3, I4, rw', q3⟩
end
end L2
namespace PL
open PySem L2 Nh
theorem xe_ix {X : Cx} {a b : Expr} {m1 m2 : Bool} {f g : PEv} {pos : Pos} (ha : EX X a m1 f) (hb : EX X b m2 g) (hs : PlainIx b := by exact fun _ _ => rfl) : EX X (.Subscript a b pos) (m1 || m2) (pBin pIx m2 f g) := pe_imp (pe_ix ix_seq ha hb hs) fun _ _ _ h => rd_bin pIx_ok h
noncomputable abbrev POv := List Sl → Option (Option Int × List Sl)
noncomputable def ro (K : PySem.W.Frag) (m : Bool) (f : POv) : TO := fun σ H Q => ∃ B E xs Xs o E', Frm K B σ H E xs Xs ∧ (m = true → Calm Xs) ∧ f E = some (o, E') ∧ ∀ H', Frm K B σ H' E' xs Xs → Q o H'
noncomputable def OX (X : Cx) (e : Option Expr) (m : Bool) (f : POv) : Prop := PO X e (ro X.K m f)
noncomputable def oNone : POv := fun E => some (none, E)
noncomputable def oSome (f : PEv) : POv := fun E => (f E).bind fun a => match look a.2 a.1 with
  | some (.int i) => some (some i, a.2)
  | _ => none
section
variable {X : Cx} {e : Expr} {lo hi : Option Expr} {m1 m2 m3 : Bool} {f : PEv} {g h : POv} {pos p2 : Pos} {K : PySem.W.Frag}
theorem po_imp {e : Option Expr} {t t' : TO} (h : PO X e t) (k : ∀ σ H Q, t' σ H Q → t σ H Q) : PO X e t' := fun pins s σ H Q I q => h pins s σ H Q I (k σ H Q q)
theorem xo_none : OX X none false oNone := po_imp po_none fun σ H Q z => by
  obtain ⟨B, E, xs, Xs, res, E', fr, cl, e, q⟩ := z
  cases e
  exact q _ fr
theorem xo_some (he : EX X e m1 f) : OX X (some e) m1 (oSome f) := po_imp (po_some he) fun σ H Q z => by
  obtain ⟨B, E, xs, Xs, res, E', fr, cl, e, q⟩ := z
  obtain ⟨⟨s, E1⟩, e1, e⟩ := Option.bind_eq_some_iff.mp e
  refine ⟨B, E, xs, Xs, s, E1, fr, cl, e1, fun v1 H1 ⟨F, A, fr1⟩ => ?_⟩
  simp only at e
  split at e
  · rename_i i l
    cases e
    have r := (fr1.look0 l).1
    cases r
    obtain ⟨A', fr2⟩ := fr1.pop
    exact ⟨i, rfl, q _ ⟨F, A', fr2⟩⟩
  · cases e
theorem RpA.cut {F : Hp} {vs : List V} {ds : List PyData} (h : RpA K F vs ds) (lo hi : Option Int) : RpA K F (cutV vs lo hi) (cutD ds lo hi) := by
  unfold cutV cutD
  rw [h.len]
  exact (h.drop _).take _
end
noncomputable def lookA (E : List Sl) : List Sl → Option (List PyData)
  | [] => some []
  | s :: ss => (look E s).bind fun d => (lookA E ss).map fun ds => d :: ds
theorem lookA_iff {E : List Sl} : ∀ {ss : List Sl} {ds : List PyData}, lookA E ss = some ds ↔ Paired (fun s d => look E s = some d) ss ds
  | [], ds => ⟨fun h => by cases h; exact .nil, fun h => by cases h; rfl⟩
  | s :: ss, ds => by
    constructor
    · intro h
      obtain ⟨d, h1, h⟩ := Option.bind_eq_some_iff.mp h
      obtain ⟨es, h2, h⟩ := Option.map_eq_some_iff.mp h
      cases h
      exact .cons h1 (lookA_iff.mp h2)
    · intro h
      cases h with
      | cons h1 h2 => simp [lookA, h1, lookA_iff.mpr h2]
theorem lookA_rev {E : List Sl} {ss : List Sl} {ds : List PyData} (h : lookA E ss = some ds) : lookA E ss.reverse = some ds.reverse := lookA_iff.mpr (pr_reverse (lookA_iff.mp h))
section
variable {X : Cx} {K : PySem.W.Frag} {B F : Hp} {σ : SgT} {H : Hp} {E : List Sl} {xs : List V} {Xs : List Sl}
theorem FrF.looksR : ∀ {us : List V} {ts : List Sl} {es : List PyData} {A : List Addr}, us.length = ts.length → FrF K B F A σ H E (us ++ xs) (ts ++ Xs) → lookA E ts = some es → RpA K H us es ∧ ∃ A', FrF K B F A' σ H E xs Xs
  | [], [], es, A, _, h, e => by cases e; exact ⟨.nil, A, h⟩
  | u :: us, t :: ts, es, A, hl, h, e => by
    obtain ⟨d, h1, e⟩ := Option.bind_eq_some_iff.mp e
    obtain ⟨es', h2, e⟩ := Option.map_eq_some_iff.mp e
    cases e
    have r := (FrF.look0 (xs := us ++ xs) (Xs := ts ++ Xs) h h1).1
    obtain ⟨A', h'⟩ := FrF.pop (xs := us ++ xs) (Xs := ts ++ Xs) h
    obtain ⟨r', q⟩ := FrF.looksR (by simpa using hl) h' h2
    exact ⟨.cons r r', q⟩
  | [], _ :: _, _, _, e, _, _ => by cases e
  | _ :: _, [], _, _, e, _, _ => by cases e
theorem FrF.looks {us : List V} {ts : List Sl} {es : List PyData} {A : List Addr} (hl : us.length = ts.length) (h : FrF K B F A σ H E (us.reverse ++ xs) (ts.reverse ++ Xs)) (e : lookA E ts = some es) : RpA K H us es ∧ ∃ A', FrF K B F A' σ H E xs Xs := by
  obtain ⟨r, q⟩ := FrF.looksR (by simpa using hl) h (lookA_rev e)
  have := r.rev
  rw [List.reverse_reverse, List.reverse_reverse] at this
  exact ⟨this, q⟩
end
noncomputable def CaOk (K : PySem.W.Frag) (r : List V → Hp → VK → Prop) (op : List PyData → Option PyData) : Prop := ∀ (ds : List PyData) (d : PyData) (vs : List V) (H : Hp) (Q : VK), op ds = some d → RpA K H vs ds → ∃ v, ofD d = some v ∧ (Q v H → r vs H Q)
noncomputable def pCaS (op : List PyData → Option PyData) (g : PAv) : PEv := fun E => (g E).bind fun a => (lookA a.2 a.1).bind fun ds => (op ds).map fun d => (.sh d, a.2)
theorem rd_caS {K : PySem.W.Frag} {r : List V → Hp → VK → Prop} {op : List PyData → Option PyData} (hp : CaOk K r op) {m : Bool} {g : PAv} {σ : SgT} {H : Hp} {Q : VK} (h : rd K m (pCaS op g) σ H Q) : tCB r (ra K m g) σ H Q := by
  obtain ⟨B, E, xs, Xs, res, E', fr, cl, e, q⟩ := h
  obtain ⟨⟨rs, E1⟩, e1, e⟩ := Option.bind_eq_some_iff.mp e
  obtain ⟨ds, e2, e⟩ := Option.bind_eq_some_iff.mp e
  obtain ⟨d, e3, e⟩ := Option.map_eq_some_iff.mp e
  cases e
  refine ⟨B, E, xs, Xs, rs, E1, fr, cl, e1, fun vs H1 hl ⟨F, A, fr1⟩ => ?_⟩
  obtain ⟨r1, A', fr2⟩ := fr1.looks hl e2
  obtain ⟨v, hv, k⟩ := hp ds d vs H1 Q e3 r1
  exact k (q v H1 ⟨F, A', fr2.push ⟨rfl, v, rfl, ofD_rp hv⟩⟩)
noncomputable def dLen : List PyData → Option PyData
  | [.list xs] => some (.int xs.length)
  | [.tuple xs] => some (.int xs.length)
  | [.str z] => if z.length ≤ 1000000 then some (.int z.length) else none
  | _ => none
noncomputable def dAbs : List PyData → Option PyData
  | [.int i] => some (.int (if i < 0 then -i else i))
  | _ => none
theorem RpA.one {K : PySem.W.Frag} {H : Hp} {vs : List V} {d : PyData} (h : RpA K H vs [d]) : ∃ v, vs = [v] ∧ Rp K H v d := by
  cases h with
  | cons h t => cases t; exact ⟨_, rfl, h⟩
theorem RpA.two {K : PySem.W.Frag} {H : Hp} {vs : List V} {d e : PyData} (h : RpA K H vs [d, e]) : ∃ v u, vs = [v, u] ∧ Rp K H v d ∧ Rp K H u e := by
  cases h with
  | cons h t =>
    obtain ⟨u, rfl, r⟩ := t.one
    exact ⟨_, _, rfl, h, r⟩
section
variable {X : Cx} {e : Expr} {es : List Expr} {m1 : Bool} {g : PAv} {p pos : Pos} {K : PySem.W.Frag}
noncomputable abbrev rLenU (K : PySem.W.Frag) : List V → Hp → VK → Prop := fun xs H Q => (∃ p ys, xs = [.ref p] ∧ (SqL K H p ys ∨ SqT K H p ys) ∧ Q (.int ys.length) H) ∨ (∃ z, xs = [.str z] ∧ z.length ≤ sizeLine ∧ Q (.int z.length) H)
theorem dLen_ok : CaOk K (rLenU K) dLen := fun ds d vs H Q e r => by
  unfold dLen at e
  split at e
  · cases e
    obtain ⟨v, rfl, r'⟩ := r.one
    cases r' with
    | lst h1 h2 => exact ⟨_, rfl, fun q => .inl ⟨_, _, rfl, .inl h1, by rw [h2.len]; exact q⟩⟩
  · cases e
    obtain ⟨v, rfl, r'⟩ := r.one
    cases r' with
    | tup h1 h2 => exact ⟨_, rfl, fun q => .inl ⟨_, _, rfl, .inr h1, by rw [h2.len]; exact q⟩⟩
  · split at e
    · rename_i hl
      cases e
      obtain ⟨v, rfl, r'⟩ := r.one
      cases r'
      exact ⟨_, rfl, fun q => .inr ⟨_, rfl, smallE hl, q⟩⟩
    · cases e
  · cases e
theorem xe_callS {x : Str} {id : String} {r : List V → Hp → VK → Prop} {op : List PyData → Option PyData} (hp : CaOk X.K r op) (hc : CallR X (.builtin id) r) (hg : Gl X x) (hm : X.mg x = none) (hv : bootBuiltins x = some (.builtin id)) (ha : AX X (e :: es) m1 g) (hn : x ≠ "__name__" := by decide) (hdb : (x == ("__debug__" : Str)) = false := by decide)
    (he : starEach (e :: es) X.env = (false, eval e X.env) :: starEach es X.env := by rfl) (hpl : (backTo pos (starEach es X.env)).any (·.1) = false := by rfl) : EX X (.Call (.Name x p) (e :: es) [] pos) m1 (pCaS op g) :=
  pe_imp (pe_callB hc hg hm hv ha hn hdb he hpl) fun _ _ _ h => rd_caS hp h
theorem xe_len (hg : Gl X "len") (hm : X.mg "len" = none) (ha : AX X [e] m1 g) (he : starEach [e] X.env = [(false, eval e X.env)] := by rfl) : EX X (.Call (.Name "len" p) [e] [] pos) m1 (pCaS dLen g) := xe_callS dLen_ok (CallR.or call_len_seq call_len_str) hg hm PySem.boot_len ha (by decide) (by decide) he rfl
theorem xe_abs (hg : Gl X "abs") (hm : X.mg "abs" = none) (ha : AX X [e] m1 g) (he : starEach [e] X.env = [(false, eval e X.env)] := by rfl) : EX X (.Call (.Name "abs" p) [e] [] pos) m1 (pCaS dAbs g) := xe_callS (fun ds d vs H Q e r => by
  unfold dAbs at e
  split at e
  · cases e
    obtain ⟨v, rfl, r'⟩ := r.one
    cases r'
    exact ⟨_, rfl, fun q => ⟨_, rfl, q⟩⟩
  · cases e) call_abs hg hm PyProof.Rows.boot_abs ha (by decide) (by decide) he rfl
end
noncomputable def pLstOf (g : PEv) : PEv := fun E => (g E).bind fun a => match look a.2 a.1 with
  | some (.list ds) => if !hot a.2 a.1 || flatA ds then some (.ow ds, a.2) else none
  | some (.tuple ds) => if !hot a.2 a.1 || flatA ds then some (.ow ds, a.2) else none
  | _ => none
section
variable {X : Cx} {e : Expr} {m1 : Bool} {f : PEv} {p pos : Pos} {K : PySem.W.Frag}
theorem xe_list (hg : Gl X "list") (hm : X.mg "list" = none) (ha : EX X e m1 f) (he : starEach [e] X.env = [(false, eval e X.env)] := by rfl) : EX X (.Call (.Name "list" p) [e] [] pos) m1 (pLstOf f) := by
  refine pe_imp (pe_callTy call_list_of hg hm PyProof.Rows.boot_list (pa_cons ha pa_nil he) (by decide) (by decide) he rfl) fun σ H Q z => ?_
  obtain ⟨B, E, xs, Xs, res, E', fr, cl, e, q⟩ := z
  obtain ⟨⟨s, E1⟩, e1, e⟩ := Option.bind_eq_some_iff.mp e
  refine ⟨B, E, xs, Xs, s, E1, fr, cl, e1, fun v1 H1 ⟨F, A, fr1⟩ => ?_⟩
  obtain ⟨A', fr2⟩ := fr1.pop
  simp only at e
  split at e
  · rename_i ds ld
    split at e
    · rename_i hc
      cases e
      obtain ⟨a, vs, ev, h1, h2⟩ := fr1.items (k := 0) rfl ld hc
      cases ev
      exact ⟨a, vs, rfl, .inl h1, fun l hl => q _ _ ⟨F, _, fr2.newl h2 hl⟩⟩
    · cases e
  · rename_i ds ld
    split at e
    · rename_i hc
      cases e
      obtain ⟨r, f0⟩ := fr1.look0 ld
      cases hh : hot E' s with
      | false =>
        have h0 : Rp X.K F v1 _ := f0 hh
        cases h0 with
        | tup h1 h2 => exact ⟨_, _, rfl, .inr (fr1.fh.tup h1), fun l hl => q _ _ ⟨F, _, fr2.newl h2 hl⟩⟩
      | true =>
        rw [hh] at hc
        cases r with
        | tup h1 h2 => exact ⟨_, _, rfl, .inr h1, fun l hl => q _ _ ⟨F, _, fr2.newl (fr1.coldA h2 (by simpa using hc)) hl⟩⟩
    · cases e
  · cases e
end
inductive Ty where
  | non | bool | int | str | list | tuple | dict
noncomputable def Ty.name : Ty → String
  | .non => "NoneType"
  | .bool => "bool"
  | .int => "int"
  | .str => "str"
  | .list => "list"
  | .tuple => "tuple"
  | .dict => "dict"
noncomputable def Ty.is : Ty → Ty → Bool
  | .non, .non => true
  | .bool, .bool => true
  | .bool, .int => true
  | .int, .int => true
  | .str, .str => true
  | .list, .list => true
  | .tuple, .tuple => true
  | .dict, .dict => true
  | _, _ => false
noncomputable def tyD : PyData → Ty
  | .none => .non
  | .bool _ => .bool
  | .int _ => .int
  | .str _ => .str
  | .list _ => .list
  | .tuple _ => .tuple
  | .dict _ => .dict
theorem kit_is (K : PySem.W.Frag) (t n : Ty) : PySem.W.kitOne K (.type t.name) (.type n.name) = some (t.is n) := by cases t <;> cases n <;> rfl
noncomputable def dIsi (n : Ty) (d : PyData) : Option PyData := some (.bool ((tyD d).is n))
section
variable {X : Cx} {e : Expr} {m1 : Bool} {f : PEv} {p p2 pos : Pos}
theorem isinst_rp {pins : List (Addr × Obj)} {s : Shared} {σ : SgT} {H : Hp} {x : V} {u : Value} {d : PyData} {n : Ty} {A : Around} {E : Value → Shared → Prop} {Q : Value → Shared → Prop} (I : Inv X pins σ H s) (rx : RelV x u) (rp : Rp X.K H x d) (h : ∀ tk, Q (.bool ((tyD d).is n)) { s with toks := tk }) :
    wpAny (model X.prog X.w) A (call (.builtin "isinstance") [u, .type n.name]) Q E s := by
  have e := kit_is X.K (tyD d) n
  cases rp with
  | non => exact isinst_ok I rx .non e h
  | bl b => exact isinst_ok I rx (.bl b) e h
  | int i => exact isinst_ok I rx (.int i) e h
  | str y => exact isinst_ok I rx (.str y) e h
  | lst h1 _ =>
    cases rx
    obtain ⟨its, rv, ⟨o, n', e1, c, _, d⟩, _⟩ := I.list h1
    exact PySem.W.kia_one PySem.W.kitx_list I.kIn ⟨_, e1, c⟩ e (fun z => nomatch z) h
  | tup h1 _ =>
    cases rx
    obtain ⟨its, rv, ⟨o, e1, c, n', d⟩, _⟩ := I.tuple h1
    exact PySem.W.kia_one PySem.W.kitx_tuple I.kIn ⟨_, e1, c⟩ e (fun z => nomatch z) h
  | dct h1 _ =>
    cases rx
    obtain ⟨_, _, vs, _, ob, es, ep, e1, c, _⟩ := dk_rd I.hok h1
    exact PySem.W.kia_one PySem.W.kitx_dict I.kIn ⟨_, e1, c.1⟩ e (fun z => nomatch z) h
theorem call_isiD (n : Ty) : CallR X (.builtin "isinstance") (fun xs H Q => ∃ x d, xs = [x, .ty n.name] ∧ Rp X.K H x d ∧ Q (.bl ((tyD d).is n)) H) := by
  intro pins s σ H xs us Q I r h
  obtain ⟨x, d, rfl, rp, q⟩ := h
  obtain ⟨u, w', rfl, ru, rw'⟩ := r.two
  cases (show w' = Value.type n.name from rw')
  exact isinst_rp I ru rp fun tk => ⟨.bl _, H, I.tok _, rfl, q⟩
theorem xe_isi (n : Ty) (hg : Gl X "isinstance") (hm : X.mg "isinstance" = none) (ha : EX X e m1 f) {x : Str} (hgx : Gl X x) (hmx : X.mg x = none) (hbx : bootBuiltins x = some (.type n.name)) (hnx : x ≠ "__name__" := by decide) (hdx : (x == ("__debug__" : Str)) = false := by decide)
    (he : starEach [e, .Name x p2] X.env = (false, eval e X.env) :: starEach [.Name x p2] X.env := by rfl) (he2 : starEach [.Name x p2] X.env = [(false, eval (.Name x p2) X.env)] := by rfl) (hpl : (backTo pos (starEach [.Name x p2] X.env)).any (·.1) = false := by rfl) :
    EX X (.Call (.Name "isinstance" p) [e, .Name x p2] [] pos) m1 (pUn (dIsi n) f) := by
  have h2 : PE X (.Name x p2) (tC (.ty n.name)) := pe_bltn (v := .ty n.name) hgx hmx hbx rfl hnx hdx
  refine pe_imp (pe_callB (call_isiD n) hg hm PyProof.Rows.boot_isinstance (pa_cons ha (pa_cons h2 pa_nil he2) he) (by decide) (by decide) he hpl) fun σ H Q z => ?_
  obtain ⟨B, E, xs, Xs, res, E', fr, cl, e, q⟩ := z
  obtain ⟨⟨s, E1⟩, e1, e⟩ := Option.bind_eq_some_iff.mp e
  obtain ⟨d1, e2, e⟩ := Option.bind_eq_some_iff.mp e
  cases e
  refine ⟨B, E, xs, Xs, s, E1, fr, cl, e1, fun v1 H1 ⟨F, A, fr1⟩ => ?_⟩
  obtain ⟨A', fr2⟩ := fr1.pop
  exact ⟨v1, d1, rfl, (fr1.look0 e2).1, q _ _ ⟨F, A', fr2.push ⟨rfl, _, rfl, .bl _⟩⟩⟩
end
end PL
namespace PL
open PySem L2 Nh
noncomputable def ResOk (K : PySem.W.Frag) (H H' : Hp) (v : V) : Sl → Prop
  | .sh d => Rp K (tups H') v d
  | .ow ds => ∃ l vs, v = .ref l ∧ H l = none ∧ H' l = some (.lst vs) ∧ RpA K (tups H') vs ds
  | .tx ps => ∃ t vs A, v = .ref t ∧ tups H' t = some (.tup vs) ∧ A.Nodup ∧ (∀ a ∈ A, H a = none) ∧ PtsOk K (tups H') H' vs ps A
  | .br d => Rp K H' v d
  | _ => False
noncomputable def spP (K : PySem.W.Frag) (c : List PyData → Option Sl) : Sp := fun vs H Q _ => ∃ ds r, c ds = some r ∧ RpA K H vs ds ∧ ∀ v H', Same H H' → ResOk K H H' v r → Q v H'
section
variable {K : PySem.W.Frag} {B F : Hp} {A N : List Addr} {σ : SgT} {H H' : Hp} {E : List Sl} {xs : List V} {Xs : List Sl} {v : V} {s : Sl}
theorem FrF.growN (h : FrF K B F A σ H E xs Xs) (g : Same H H') (hN : ∀ a ∈ N, H a = none ∧ ∃ us, H' a = some (.lst us)) : FrF K B (fun b => if b ∈ N then none else if b ∈ A then none else H' b) A σ H' E xs Xs := by
  have h1 := h.grow g
  have nF : ∀ b o, F b = some o → b ∉ N := fun b o e hb => by
    have := h.fh.free (hN b hb).1
    rw [this] at e; cases e
  have FF : Same F (fun b => if b ∈ N then none else if b ∈ A then none else H' b) := fun b o e => by
    have nA : b ∉ A := fun hb => by rw [h.fr b hb] at e; cases e
    show (if b ∈ N then none else if b ∈ A then none else H' b) = some o
    rw [if_neg (nF b o e), if_neg nA]
    exact g _ _ (h.fh _ _ e)
  have hA : ∀ b ∈ A, H' b = H b := fun b hb => by
    rcases h.mutA b hb with ⟨_, z⟩ | ⟨_, z⟩ <;> rw [z, g _ _ z]
  refine ⟨h.bf.trans FF, fun b o e => ?_, fun b o e => ?_, h.sl.mono fun o s C _ hC q => q.stay FF (fun b hb => hA b (hC b hb)) fun _ => g, h.nd, fun a ha => ?_, h.len, h.pl⟩
  · by_cases hb : b ∈ N
    · rw [if_pos hb] at e; cases e
    · rw [if_neg hb] at e; exact h1.fh _ _ e
  · show (if b ∈ N then none else if b ∈ A then none else H' b) = some o
    by_cases hb : b ∈ N
    · obtain ⟨_, us, z⟩ := hN b hb
      obtain ⟨e1, e2⟩ := Option.filter_eq_some_iff.mp e
      rw [z] at e1; cases e1; cases e2
    · rw [if_neg hb]; exact h1.tf _ _ e
  · show (if a ∈ N then none else if a ∈ A then none else H' a) = none
    by_cases hb : a ∈ N
    · rw [if_pos hb]
    · rw [if_neg hb, if_pos ha]
theorem FrF.pushR (h : FrF K B F A σ H E xs Xs) (q : SlOk K F H σ (some v) s N) (nd : N.Nodup) (dj : ∀ a ∈ N, a ∉ A) (fr : ∀ a ∈ N, F a = none) : FrF K B F (N ++ A) σ H E (v :: xs) (s :: Xs) :=
  ⟨h.bf, h.fh, h.tf, .cons q h.sl, List.nodup_append.mpr ⟨nd, h.nd, fun a ha b hb e => dj a ha (e ▸ hb)⟩, fun a ha => (List.mem_append.mp ha).elim (fr a) (h.fr a), by simp [h.len], h.pl⟩
theorem FrF.told (h : FrF K B F A σ H E xs Xs) (g : Same H H') (q : ResOk K H H' v s) : Frm K B σ H' E (v :: xs) (s :: Xs) := by
  cases s with
  | sh d =>
    have h1 := h.grow g
    exact ⟨_, _, h1.push ⟨rfl, v, rfl, Rp.same h1.tf q⟩⟩
  | ow ds =>
    obtain ⟨l, vs, rfl, hl, hl', r⟩ := q
    have h1 := h.growN (N := [l]) g fun a ha => by rw [List.mem_singleton.mp ha]; exact ⟨hl, vs, hl'⟩
    exact ⟨_, _, h1.pushR (N := [l]) ⟨l, vs, rfl, rfl, hl', r.same h1.tf⟩ (by simp) (fun a ha => by rw [List.mem_singleton.mp ha]; exact h.newA hl) fun a ha => if_pos ha⟩
  | tx ps =>
    obtain ⟨t, vs, N, rfl, ht, nd, hN, r⟩ := q
    have h1 := h.growN (N := N) g fun a ha => ⟨hN a ha, r.some a ha⟩
    exact ⟨_, _, h1.pushR (N := N) ⟨t, vs, rfl, h1.tf _ _ ht, r.stay h1.tf fun _ _ => rfl⟩ nd (fun a ha => h.newA (hN a ha)) fun a ha => if_pos ha⟩
  | no => exact False.elim q
  | od kvs => exact False.elim q
  | al i => exact False.elim q
  | br d =>
    have h1 := h.grow g
    exact ⟨_, _, h1.push ⟨rfl, v, rfl, q⟩⟩
end
noncomputable def pCall (c : List PyData → Option Sl) (g : PAv) : PEv := fun E => (g E).bind fun a => (lookA a.2 a.1).bind fun ds => (c ds).map fun r => (r, a.2)
theorem xe_own {X : Cx} {k : Nat} {x : Str} {ps : List Str} {c : List PyData → Option Sl} {p pos : Pos} {e : Expr} {es : List Expr} {m : Bool} {g : PAv} (D : Own X.prog X.w X.K X.mg X.base k x ps (spP X.K c)) (hr : Room k X.A) (hg : Gl X x) (ha : AX X (e :: es) m g)
    (hdb : (x == ("__debug__" : Str)) = false := by decide) (he : starEach (e :: es) X.env = (false, eval e X.env) :: starEach es X.env := by rfl) (hpl : (backTo pos (starEach es X.env)).any (·.1) = false := by rfl) :
    EX X (.Call (.Name x p) (e :: es) [] pos) m (pCall c g) := by
  refine pe_imp (pe_own D hr hg ha hdb he hpl) fun σ H Q z => ?_
  obtain ⟨B, E, xs, Xs, res, E', fr, cl, e, q⟩ := z
  obtain ⟨⟨rs, E1⟩, e1, e⟩ := Option.bind_eq_some_iff.mp e
  obtain ⟨ds, e2, e⟩ := Option.bind_eq_some_iff.mp e
  obtain ⟨r, e3, e⟩ := Option.map_eq_some_iff.mp e
  cases e
  refine ⟨B, E, xs, Xs, rs, E1, fr, cl, e1, fun vs H1 hl ⟨F, A, fr1⟩ => ?_⟩
  obtain ⟨r1, A', fr2⟩ := fr1.looks hl e2
  exact ⟨ds, res, e3, by rw [List.append_nil]; exact r1, fun v H' g q' => q v H' (fr2.told g q')⟩
noncomputable def pAppend (i : Nat) (f : PEv) : PEv := fun E => match E[i]? with
  | some (.ow _) => (f E).bind fun a => (frz a.2 a.1).bind fun b => match b.2[i]? with
    | some (.ow ds) => if ds.length < 1000000 then some (.sh .none, b.2.set i (.ow (ds ++ [b.1]))) else none
    | _ => none
  | _ => none
noncomputable def pPop (i : Nat) : PEv := fun E => match E[i]? with
  | some (.ow ds) => (ds[ds.length - 1]?).map fun d => (.sh d, E.set i (.ow ds.dropLast))
  | _ => none
section
variable {X : Cx} {e : Expr} {m1 : Bool} {f : PEv} {x : Str} {p apos cpos : Pos}
theorem xe_append (i : Nat) (he : EX X e m1 f) (hN : X.N[i]? = some x := by rfl) (hv : Vis X.env.scope x := by first | exact Or.inl rfl | exact Or.inr (Or.inl rfl) | exact Or.inr (Or.inr rfl)) (hd : (x == ("__debug__" : Str)) = false := by decide) (hcd : (x == ("__classdict__" : Str)) = false := by decide)
    (hs : starEach [e] X.env = [(false, eval e X.env)] := by rfl) (hbase : attributeBase (.Name x p) "append" X.env (eval (.Name x p) X.env) = eval (.Name x p) X.env := by rfl)
    (hfew : ((backTo cpos (starEach [e] X.env)).all (fun x => !x.1) && (backToKw cpos (keywordEach [] X.env)).all (fun x => x.1.isSome)
      && decide (([e] : List Expr).length + ([] : List Keyword).length + (if ([] : List Keyword).isEmpty then 0 else 1) < 30)) = true := by rfl) (hline : (apos.endLine == cpos.line) = true := by rfl) :
    EX X (.Call (.Attribute (.Name x p) "append" apos) [e] [] cpos) true (pAppend i f) := by
  refine pe_imp (pe_bm PySem.F.plainAttrs_list PySem.F.slot_list_append PySem.F.type_list_append mt_append (pe_var hN hv hd hcd) (pa_cons he pa_nil hs) hbase hfew hline hs rfl) fun σ H Q z => ?_
  obtain ⟨B, E, xs, Xs, res, E', ⟨F, A, fr⟩, cl, e, q⟩ := z
  unfold pAppend at e
  split at e
  · rename_i ds0 ei
    obtain ⟨⟨s, E1⟩, e1, e⟩ := Option.bind_eq_some_iff.mp e
    obtain ⟨⟨d, E2⟩, e2, e⟩ := Option.bind_eq_some_iff.mp e
    simp only at e
    split at e
    · rename_i ds ei2
      split at e
      · rename_i hl
        cases e
        obtain ⟨o, A1, eo, l, vs, rfl, rfl, hl0, _⟩ := fr.var ei
        refine ⟨_, eo, .inl ⟨rfl, _, SqL.of hl0⟩, B, E, xs, Xs, s, E1, ⟨F, A, fr⟩, fun _ => cl rfl, e1, fun v H1 ⟨F1, A1, fr1⟩ => ?_⟩
        obtain ⟨F2, A2, fr2⟩ := fr1.frz0 e2
        obtain ⟨v', A3, ev, rfl, w, ew, rv⟩ := fr2.ext (k := 0) rfl
        cases ev; cases ew
        obtain ⟨A4, fr3⟩ := fr2.pop
        obtain ⟨l', vs', eo', hl', r', put⟩ := fr3.mut ei2 (cl rfl)
        rw [eo] at eo'
        cases eo'
        have ll := r'.len
        have fr4 := put (vs' ++ [v]) (ds ++ [d]) (r'.snoc rv)
        exact ⟨l, vs', v, rfl, rfl, hl', small (by omega), q _ _ ⟨_, _, fr4.push ⟨rfl, _, rfl, .non⟩⟩⟩
      · cases e
    · cases e
  · cases e
theorem xe_pop (i : Nat) (hN : X.N[i]? = some x := by rfl) (hv : Vis X.env.scope x := by first | exact Or.inl rfl | exact Or.inr (Or.inl rfl) | exact Or.inr (Or.inr rfl)) (hd : (x == ("__debug__" : Str)) = false := by decide) (hcd : (x == ("__classdict__" : Str)) = false := by decide)
    (hbase : attributeBase (.Name x p) "pop" X.env (eval (.Name x p) X.env) = eval (.Name x p) X.env := by rfl) (hline : (apos.endLine == cpos.line) = true := by rfl) :
    EX X (.Call (.Attribute (.Name x p) "pop" apos) [] [] cpos) true (pPop i) := by
  refine pe_imp (pe_bm0 PySem.F.plainAttrs_list PySem.F.slot_list_pop PySem.F.type_list_pop mt_pop (pe_var hN hv hd hcd) hbase hline) fun σ H Q z => ?_
  obtain ⟨B, E, xs, Xs, res, E', ⟨F, A, fr⟩, cl, e, q⟩ := z
  unfold pPop at e
  split at e
  · rename_i ds ei
    obtain ⟨d, ed, e⟩ := Option.map_eq_some_iff.mp e
    cases e
    obtain ⟨l, vs, eo, hl, r, put⟩ := fr.mut ei (cl rfl)
    obtain ⟨y, ey, ry⟩ := r.get ed
    have fr2 := put vs.dropLast ds.dropLast r.dropLast
    exact ⟨_, eo, .inl ⟨rfl, _, SqL.of hl⟩, l, vs, y, rfl, rfl, hl, by rw [r.len]; exact ey, q _ _ ⟨_, _, fr2.push ⟨rfl, _, rfl, ry⟩⟩⟩
  · cases e
end
noncomputable def frzSl (s : Sl) : Sl := match s.val with
  | some d => .sh d
  | none => .no
noncomputable def frzAll (E : List Sl) : List Sl := E.map frzSl
noncomputable def settle (E : List Sl) : Sl → Option (Sl × List Sl)
  | .al i => (frz E (.al i)).map fun a => (.sh a.1, a.2)
  | .br d => if flat d then some (.sh d, E) else some (.sh d, frzAll E)
  | s => some (s, E)
noncomputable def pSeq (g h : PSv) : PSv := fun E => (g E).bind fun a => match a.2 with
  | .nx => h a.1
  | fl => some (a.1, fl)
noncomputable def pNext : PSv := fun E => some (E, .nx)
noncomputable def pExpr (f : PEv) : PSv := fun E => (f E).map fun a => (a.2, .nx)
noncomputable def pRet (f : PEv) : PSv := fun E => (f E).bind fun a => match a.1 with
  | .al i => (a.2[i]?).map fun s => (a.2.set i .no, .rt s)
  | s => some (a.2, .rt s)
noncomputable def pIfS (c : PTv) (g h : PSv) : PSv := fun E => (c E).bind fun a => if a.1 then g a.2 else h a.2
noncomputable def pSet (i : Nat) (f : PEv) : PSv := fun E => (f E).bind fun a => (settle a.2 a.1).bind fun b => if i < b.2.length then some (b.2.set i b.1, .nx) else none
section
variable {K : PySem.W.Frag} {B F : Hp} {A : List Addr} {σ : SgT} {H : Hp} {E E' : List Sl} {xs : List V} {Xs : List Sl} {v : V} {s s' : Sl} {d : PyData}
theorem FrF.frzAll (h : FrF K B F A σ H E xs Xs) (hX : Xs = []) : FrF K B H [] σ H (PL.frzAll E) [] [] := by
  subst hX
  have hx : xs = [] := by simpa using h.len
  subst hx
  refine ⟨h.bf.trans h.fh, Same.refl _, tups_same H, ?_, List.nodup_nil, fun a ha => (by cases ha), rfl, fun s hs => ?_⟩
  · have key : ∀ {os : List (Option V)} {ss : List Sl} {C : List Addr}, SAll (SlOk K F H σ) os ss C → SAll (SlOk K H H σ) os (PL.frzAll ss) [] := fun {os ss C} r => by
      induction r with
      | nil => exact .nil
      | cons q _ ih =>
        refine .cons (A := []) ?_ ih
        unfold frzSl
        split
        · rename_i d e
          obtain ⟨v, rfl, r, _⟩ := q.val h.fh e
          exact ⟨rfl, v, rfl, r⟩
        · exact rfl
    exact key h.sl
  · obtain ⟨t, _, rfl⟩ := List.mem_map.mp hs
    unfold frzSl
    split <;> rfl
theorem FrF.settle (h : FrF K B F A σ H E (v :: xs) (s :: Xs)) (hX : Xs = []) (q : PL.settle E s = some (s', E')) : s'.isAl = false ∧ Frm K B σ H E' (v :: xs) (s' :: Xs) := by
  cases s with
  | al i =>
    obtain ⟨⟨d, E2⟩, e, z⟩ := Option.map_eq_some_iff.mp (show (frz E (.al i)).map (fun a => (Sl.sh a.1, a.2)) = some (s', E') from q)
    cases z
    obtain ⟨F', A', h'⟩ := h.frz0 e
    exact ⟨rfl, F', A', h'⟩
  | br d =>
    have r := (h.look0 (d := d) rfl).1
    obtain ⟨A', h'⟩ := h.pop
    simp only [PL.settle] at q
    split at q
    · rename_i hf
      cases q
      exact ⟨rfl, F, A', h'.push ⟨rfl, v, rfl, h.cold r hf⟩⟩
    · cases q
      have h2 := h'.frzAll hX
      have hl := h'.len
      subst hX
      have hx : xs = [] := by simpa using hl
      subst hx
      exact ⟨rfl, H, [], h2.push ⟨rfl, v, rfl, r⟩⟩
  | no => cases q; exact ⟨rfl, F, A, h⟩
  | sh d => cases q; exact ⟨rfl, F, A, h⟩
  | ow ds => cases q; exact ⟨rfl, F, A, h⟩
  | od kvs => cases q; exact ⟨rfl, F, A, h⟩
  | tx ps => cases q; exact ⟨rfl, F, A, h⟩
theorem FrF.move {i : Nat} (h : FrF K B F A σ H E (v :: xs) (.al i :: Xs)) (e : E[i]? = some s) : Frm K B σ H (E.set i .no) (v :: xs) (s :: Xs) := by
  obtain ⟨v', A1, ev, rfl, w, ew, hw⟩ := h.ext (k := 0) rfl
  cases ev; cases ew
  obtain ⟨A', h'⟩ := h.pop
  obtain ⟨o, A0, A1, A2, eA, eo, hp, put⟩ := h'.sl.at (k := Xs.length + i) (s := s) (by rw [List.getElem?_append_right (by omega)]; simpa using e)
  have z := put (SlOk K F H σ) o .no [] rfl fun _ _ _ _ _ q => q
  have e3 : (Xs ++ E).set (Xs.length + i) .no = Xs ++ E.set i .no := by
    rw [List.set_append_right _ _ (by omega), Nat.add_sub_cancel_left]
  have e2 : (List.map some xs ++ σ).set (Xs.length + i) o = List.map some xs ++ σ := List.ext_getElem? fun j => by
    by_cases hj : Xs.length + i = j
    · subst hj
      rw [List.getElem?_set_self', eo]; rfl
    · rw [List.getElem?_set_ne hj]
  rw [e2, e3] at z
  rw [List.getElem?_append_right (by rw [List.length_map, h'.len]; omega), List.length_map, h'.len, Nat.add_sub_cancel_left, hw] at eo
  cases eo
  have nd := h'.nd
  rw [eA] at nd
  refine ⟨F, A1 ++ (A0 ++ ([] ++ A2)), h.bf, h.fh, h.tf, .cons hp z, ?_, fun a ha => h'.fr a ?_, h.len, fun s' hs => ?_⟩
  · have p : (A1 ++ (A0 ++ ([] ++ A2))).Perm (A0 ++ (A1 ++ A2)) := by
      rw [List.nil_append, ← List.append_assoc, ← List.append_assoc]
      exact List.Perm.append_right _ List.perm_append_comm
    exact p.nodup_iff.mpr nd
  · rw [eA]
    simp only [List.mem_append, List.nil_append] at ha ⊢
    rcases ha with z | z | z
    · exact .inr (.inl z)
    · exact .inl z
    · exact .inr (.inr z)
  · rcases List.mem_or_eq_of_mem_set hs with hs | hs
    · exact h.pl s' hs
    · subst hs; rfl
end
section
variable {X : Cx} {st : Stmt} {rest a b : List Stmt} {g h : PSv} {e c : Expr} {m : Bool} {f : PEv} {t : PTv} {pos : Pos}
theorem xss_nil : SSX X [] pNext := pss_imp pss_nil fun D σ H z => by
  obtain ⟨B, E, xs, Xs, E', fl, fr, cl, e, q⟩ := z
  cases e
  exact q _ _ fr
theorem xss_one (h1 : SX X st g) : SSX X [st] g := pss_one h1
theorem rs_seq {K : PySem.W.Frag} {D : Ends} {σ : SgT} {H : Hp} (z : rs K (pSeq g h) D σ H) : rs K g { D with nx := rs K h D } σ H := by
  obtain ⟨B, E, xs, Xs, E', fl, fr, cl, e, q⟩ := z
  obtain ⟨⟨E1, f1⟩, e1, e⟩ := Option.bind_eq_some_iff.mp e
  refine ⟨B, E, xs, Xs, E1, f1, fr, cl, e1, ?_⟩
  cases f1 with
  | nx => exact fun σ' H' fr' => ⟨B, E1, xs, Xs, E', fl, fr', cl, e, q⟩
  | bk => cases e; exact q
  | ct => cases e; exact q
  | rt r => cases e; exact q
theorem xss_cons (h1 : SX X st g) (h2 : SSX X rest h) : SSX X (st :: rest) (pSeq g h) := pss_imp (pss_cons h1 h2) fun D σ H z => rs_seq z
theorem xs_expr (he : EX X e m f) (hs : swapsWith e none pos.line X.env = pure false := by rfl) : SX X (.Expr e pos) (pExpr f) := ps_imp (ps_expr he hs) fun D σ H z => by
  obtain ⟨B, E, xs, Xs, E', fl, fr, cl, e, q⟩ := z
  obtain ⟨⟨s, E1⟩, e1, e⟩ := Option.map_eq_some_iff.mp e
  cases e
  refine ⟨B, E, xs, Xs, s, E1, fr, fun _ => Calm.nil cl, e1, fun v H1 ⟨F, A, fr1⟩ => ?_⟩
  obtain ⟨A', fr2⟩ := fr1.pop
  exact q _ _ ⟨F, A', fr2⟩
theorem xs_ret (he : EX X e m f) : SX X (.Return (some e) pos) (pRet f) := ps_imp (ps_ret he) fun D σ H z => by
  obtain ⟨B, E, xs, Xs, E', fl, fr, cl, e, q⟩ := z
  obtain ⟨⟨s, E1⟩, e1, e⟩ := Option.bind_eq_some_iff.mp e
  refine ⟨B, E, xs, Xs, s, E1, fr, fun _ => Calm.nil cl, e1, fun v H1 ⟨F, A, fr1⟩ => ?_⟩
  simp only at e
  split at e
  · obtain ⟨s', es, e⟩ := Option.map_eq_some_iff.mp e
    cases e
    exact q σ _ _ (fr1.move es)
  · cases e
    exact q σ _ _ ⟨F, A, fr1⟩
theorem xs_if (hc : TX X c m t) (ha : SSX X a g) (hb : SSX X b h) : SX X (.If c a b pos) (pIfS t g h) := ps_imp (ps_if hc ha hb) fun D σ H z => by
  obtain ⟨B, E, xs, Xs, E', fl, fr, cl, e, q⟩ := z
  obtain ⟨⟨b1, E1⟩, e1, e⟩ := Option.bind_eq_some_iff.mp e
  refine ⟨B, E, xs, Xs, b1, E1, fr, fun _ => Calm.nil cl, e1, fun H1 fr1 => ?_⟩
  cases b1 with
  | true => exact (if_pos rfl).mpr ⟨B, E1, xs, Xs, E', fl, fr1, cl, e, q⟩
  | false => exact (if_neg (by decide)).mpr ⟨B, E1, xs, Xs, E', fl, fr1, cl, e, q⟩
theorem xs_set (i : Nat) {x : Str} {pos' : Pos} (hN : X.N.Nodup) (he : EX X e m f) (hi : X.N[i]? = some x := by rfl) (hx : Loc X.env.scope x := by first | exact Or.inl rfl | exact Or.inr rfl) (hs : swapsWith e (some (.Name x pos')) pos.line X.env = pure false := by rfl) (hf : X.fn x = true ∨ X.env.scope.names.lookup x = some .local := by first | exact .inl rfl | exact .inr rfl | assumption) :
    SX X (.Assign [.Name x pos'] e pos) (pSet i f) := ps_imp (ps_set hN hi hx he hs hf) fun D σ H z => by
  obtain ⟨B, E, xs, Xs, E', fl, fr, cl, e, q⟩ := z
  obtain ⟨⟨s, E1⟩, e1, e⟩ := Option.bind_eq_some_iff.mp e
  obtain ⟨⟨s', E2⟩, e2, e⟩ := Option.bind_eq_some_iff.mp e
  refine ⟨B, E, xs, Xs, s, E1, fr, fun _ => Calm.nil cl, e1, fun v H1 ⟨F, A, fr1⟩ => ?_⟩
  obtain ⟨c1, F2, A2, fr2⟩ := fr1.settle cl e2
  simp only at e
  split at e
  · rename_i hi
    cases e
    obtain ⟨A3, fr3⟩ := fr2.store c1 (Still.nil cl) hi
    exact q _ _ ⟨F2, A3, fr3⟩
  · cases e
end
end PL
namespace PL
open PySem L2 Nh
noncomputable abbrev PGv := PyData → List Sl → Option (List Sl)
noncomputable abbrev PGsv := List PyData → List Sl → Option (List Sl)
noncomputable def rg (K : PySem.W.Frag) (h : PGv) : TG := fun v σ H Q => ∃ B E xs Xs d E', Frm K B σ H E (v :: xs) (.sh d :: Xs) ∧ Still Xs ∧ h d E = some E' ∧ ∀ σ' H', Frm K B σ' H' E' xs Xs → Q σ' H'
noncomputable def rgs (K : PySem.W.Frag) (h : PGsv) : TGs := fun vs σ H Q => ∃ B E xs Xs ds E', vs.length = ds.length ∧ Frm K B σ H E (vs ++ xs) (ds.map .sh ++ Xs) ∧ Still Xs ∧ h ds E = some E' ∧ ∀ σ' H', Frm K B σ' H' E' xs Xs → Q σ' H'
noncomputable def GX (X : Cx) (e : Expr) (h : PGv) : Prop := PG X e (rg X.K h)
noncomputable def GsX (X : Cx) (es : List Expr) (h : PGsv) : Prop := PGs X es (rgs X.K h)
noncomputable def gNameP (i : Nat) : PGv := fun d E => if i < E.length then some (E.set i (.sh d)) else none
noncomputable def gNilP : PGsv := fun ds E => if ds.isEmpty then some E else none
noncomputable def gConsP (h : PGv) (hs : PGsv) : PGsv := fun ds E => match ds with
  | d :: ds => (h d E).bind (hs ds)
  | [] => none
noncomputable def gTupP (n : Nat) (hs : PGsv) : PGv := fun d E => match d with
  | .tuple ds => if ds.length = n then hs ds E else none
  | _ => none
section
variable {X : Cx}
theorem pg_imp {e : Expr} {t t' : TG} (h : PG X e t) (k : ∀ v σ H Q, t' v σ H Q → t v σ H Q) : PG X e t' := fun pins s σ H v u Q I r q => h pins s σ H v u Q I r (k v σ H Q q)
theorem pgs_imp {es : List Expr} {t t' : TGs} (h : PGs X es t) (k : ∀ v σ H Q, t' v σ H Q → t v σ H Q) : PGs X es t' := fun pins s σ H v u Q I r q => h pins s σ H v u Q I r (k v σ H Q q)
theorem xg_name (i : Nat) {x : Str} {pos : Pos} (hN : X.N.Nodup) (hi : X.N[i]? = some x := by rfl) (hx : Loc X.env.scope x := by first | exact Or.inl rfl | exact Or.inr rfl) (hf : X.fn x = true ∨ X.env.scope.names.lookup x = some .local := by first | exact .inl rfl | exact .inr rfl | assumption) : GX X (.Name x pos) (gNameP i) := pg_imp (pg_name hN hi hx hf) fun v σ H Q z => by
  obtain ⟨B, E, xs, Xs, d, E', ⟨F, A, fr⟩, cl, e, q⟩ := z
  unfold gNameP at e
  split at e
  · rename_i hi
    cases e
    obtain ⟨A', fr'⟩ := fr.store rfl cl hi
    exact q _ _ ⟨F, A', fr'⟩
  · cases e
theorem xgs_nil : GsX X [] gNilP := pgs_imp pgs_nil fun v σ H Q z => by
  obtain ⟨B, E, xs, Xs, ds, E', hl, fr, cl, e, q⟩ := z
  unfold gNilP at e
  split at e
  · rename_i hd
    cases e
    have : ds = [] := by simpa using hd
    subst this
    have hv : v = [] := by simpa using hl
    subst hv
    exact ⟨rfl, q _ _ fr⟩
  · cases e
theorem xgs_cons {e : Expr} {es : List Expr} {h : PGv} {hs : PGsv} (h1 : GX X e h) (h2 : GsX X es hs) (hst : (assignEach (e :: es) X.env).map (·.2) = assign e X.env :: (assignEach es X.env).map (·.2) := by rfl) : GsX X (e :: es) (gConsP h hs) := pgs_imp (pgs_cons h1 h2 hst) fun v σ H Q z => by
  obtain ⟨B, E, xs, Xs, ds, E', hl, fr, cl, e, q⟩ := z
  cases ds with
  | nil => cases e
  | cons d ds =>
    cases v with
    | nil => cases hl
    | cons v vs =>
      obtain ⟨E1, e1, e2⟩ := Option.bind_eq_some_iff.mp e
      refine ⟨v, vs, rfl, B, E, vs ++ xs, ds.map Sl.sh ++ Xs, d, E1, fr, fun s hs => ?_, e1, fun σ1 H1 fr1 => ⟨B, E1, xs, Xs, ds, E', by simpa using hl, fr1, cl, e2, q⟩⟩
      rcases List.mem_append.mp hs with hs | hs
      · obtain ⟨d', _, rfl⟩ := List.mem_map.mp hs
        rfl
      · exact cl s hs
theorem xg_tup {es : List Expr} {k : Nat} {pos : Pos} {hs : PGsv} {n : Nat} (hc : X.calm = true) (h : GsX X es hs) (hn : (assignEach es X.env).length = n := by rfl) (hst : (assignEach es X.env).findIdx? (·.1) = none := by rfl) : GX X (.Tuple es k pos) (gTupP n hs) := pg_imp (pg_tup hc h hn hst) fun v σ H Q z => by
  obtain ⟨B, E, xs, Xs, d, E', ⟨F, A, fr⟩, cl, e, q⟩ := z
  unfold gTupP at e
  split at e
  · rename_i ds
    split at e
    · rename_i hl
      obtain ⟨v', A1, ev, rfl, w, ew, r⟩ := fr.ext (k := 0) rfl
      cases ev; cases ew
      cases r with
      | tup h1 h2 =>
        obtain ⟨A', fr'⟩ := fr.pop
        have key : ∀ {us : List V} {es : List PyData}, RpA X.K F us es → FrF X.K B F A' σ H E (us ++ xs) (es.map .sh ++ Xs) := fun {us es} r => by
          induction us generalizing es with
          | nil => cases r; exact fr'
          | cons u us ih =>
            cases r with
            | cons r1 r2 => exact (ih r2).push ⟨rfl, _, rfl, r1⟩
        exact ⟨_, _, rfl, fr.fh.tup h1, by rw [h2.len]; exact hl, B, E, xs, Xs, ds, E', h2.len, ⟨F, A', key h2⟩, cl, e, q⟩
    · cases e
  · cases e
end
noncomputable def ItOk (K : PySem.W.Frag) (B0 : Hp) (J : It) (ds : List PyData) : Prop := ∀ {B F : Hp} {A : List Addr} {σ : SgT} {H : Hp} {E : List Sl} {xs : List V} {Xs : List Sl} (i : Nat), Same B0 B → FrF K B F A σ H E xs Xs →
  (∀ d, ds[i]? = some d → J.go i H ∧ ∀ x H2, J.yld i H x H2 → Frm K B σ H2 E (x :: xs) (.sh d :: Xs)) ∧ (i = ds.length → J.stop i H)
noncomputable def ri (K : PySem.W.Frag) (m : Bool) (f : PDv) : TI := fun σ H R => ∃ B E xs Xs ds E', Frm K B σ H E xs Xs ∧ (m = true → Calm Xs) ∧ f E = some (ds, E') ∧ ∀ B' J H', Same B B' → Frm K B' σ H' E' xs Xs → ItOk K B' J ds → R J H'
noncomputable def IX (X : Cx) (tg e : Expr) (m : Bool) (f : PDv) : Prop := PI X tg e (ri X.K m f)
theorem FrF.base {K : PySem.W.Frag} {B B' F : Hp} {A : List Addr} {σ : SgT} {H : Hp} {E : List Sl} {xs : List V} {Xs : List Sl} (h : FrF K B' F A σ H E xs Xs) (s : Same B B') : FrF K B F A σ H E xs Xs := ⟨s.trans h.bf, h.fh, h.tf, h.sl, h.nd, h.fr, h.len, h.pl⟩
theorem Frm.base {K : PySem.W.Frag} {B B' : Hp} {σ : SgT} {H : Hp} {E : List Sl} {xs : List V} {Xs : List Sl} (h : Frm K B' σ H E xs Xs) (s : Same B B') : Frm K B σ H E xs Xs := let ⟨F, A, h⟩ := h; ⟨F, A, h.base s⟩
theorem FrF.raise {K : PySem.W.Frag} {B F : Hp} {A : List Addr} {σ : SgT} {H : Hp} {E : List Sl} {xs : List V} {Xs : List Sl} (h : FrF K B F A σ H E xs Xs) : FrF K F F A σ H E xs Xs := ⟨Same.refl _, h.fh, h.tf, h.sl, h.nd, h.fr, h.len, h.pl⟩
noncomputable def rngD (lo : Int) (n : Nat) : List PyData := (List.range n).map fun (k : Nat) => .int (lo + (k : Int))
noncomputable def iRng1P (g : PAv) : PDv := fun E => (g E).bind fun a => match lookA a.2 a.1 with
  | some [.int j] => if -1000000 ≤ j ∧ j ≤ 1000000 then some (rngD 0 j.toNat, a.2) else none
  | _ => none
noncomputable def iRng2P (g : PAv) : PDv := fun E => (g E).bind fun a => match lookA a.2 a.1 with
  | some [.int i, .int j] => if -1000000 ≤ i ∧ i ≤ 1000000 ∧ -1000000 ≤ j ∧ j ≤ 1000000 then some (rngD i (j - i).toNat, a.2) else none
  | _ => none
noncomputable def iRevP (f : PEv) : PDv := fun E => (f E).bind fun a => (frz a.2 a.1).bind fun b => match b.1 with
  | .list ds => some (ds.reverse, b.2)
  | _ => none
section
variable {X : Cx} {tg e e2 : Expr} {m : Bool} {f : PEv} {g : PAv} {p pos : Pos} {K : PySem.W.Frag} {B : Hp}
theorem pi_imp {t t' : TI} (h : PI X tg e t) (k : ∀ σ H Q, t' σ H Q → t σ H Q) : PI X tg e t' := fun pins s σ H R I q => h pins s σ H R I (k σ H R q)
theorem itOk_list {a : Addr} {vs : List V} {ds : List PyData} (h : SqL K B a vs) (r : RpA K B vs ds) : ItOk K B (Itl K a) ds := fun {B' F A σ H E xs Xs} i sB fr => by
  have hH := fr.fh.seq (fr.bf.seq (sB.seq h))
  refine ⟨fun d ed => ?_, fun e => ⟨vs, hH, by rw [e, r.len]; exact Nat.le_refl _⟩⟩
  obtain ⟨v, ev, rv⟩ := r.get ed
  refine ⟨⟨vs, v, hH, ev⟩, fun x H2 ⟨e2, y⟩ => ?_⟩
  subst e2
  have := y vs hH
  rw [ev] at this
  cases this
  exact ⟨F, A, fr.push ⟨rfl, _, rfl, rv.same (sB.trans fr.bf)⟩⟩
theorem itOk_rev {a : Addr} {vs : List V} {ds : List PyData} (h : SqL K B a vs) (r : RpA K B vs ds) : ItOk K B (Itv K a vs) ds.reverse := fun {B' F A σ H E xs Xs} i sB fr => by
  have hH := fr.fh.seq (fr.bf.seq (sB.seq h))
  refine ⟨fun d ed => ?_, fun e => ⟨hH, by rw [e, List.length_reverse, r.len]⟩⟩
  obtain ⟨v, ev, rv⟩ := r.rev.get ed
  have hi : i < vs.length := by
    have := (List.getElem?_eq_some_iff.mp ev).1
    simpa using this
  refine ⟨⟨hH, hi⟩, fun x H2 ⟨e2, y⟩ => ?_⟩
  subst e2
  rw [ev] at y
  cases y
  exact ⟨F, A, fr.push ⟨rfl, _, rfl, rv.same (sB.trans fr.bf)⟩⟩
theorem itOk_range {lo : Int} {n : Nat} : ItOk K B (Itr lo n) (rngD lo n) := fun {B' F A σ H E xs Xs} i sB fr => by
  have hl : (rngD lo n).length = n := by simp [rngD]
  refine ⟨fun d ed => ?_, fun e => ?_⟩
  · have hi : i < n := by have := (List.getElem?_eq_some_iff.mp ed).1; omega
    refine ⟨hi, fun x H2 ⟨e2, y⟩ => ?_⟩
    subst e2 y
    have : d = .int (lo + i) := by
      unfold rngD at ed
      rw [List.getElem?_map, List.getElem?_range hi] at ed
      exact (Option.some.inj ed).symm
    subst this
    exact ⟨F, A, fr.push ⟨rfl, _, rfl, .int _⟩⟩
  · show n ≤ i
    omega
theorem xi_rev (hg : Gl X "reversed") (hm : X.mg "reversed" = none) (he : EX X e m f) (hs : starEach [e] X.env = [(false, eval e X.env)] := by rfl) : IX X tg (.Call (.Name "reversed" p) [e] [] pos) m (iRevP f) := pi_imp (pi_rev hg hm (pa_cons he pa_nil hs) hs) fun σ H R z => by
  obtain ⟨B, E, xs, Xs, ds, E', fr, cl, e, q⟩ := z
  obtain ⟨⟨s, E1⟩, e1, e⟩ := Option.bind_eq_some_iff.mp e
  obtain ⟨⟨d, E2⟩, e2, e⟩ := Option.bind_eq_some_iff.mp e
  refine ⟨B, E, xs, Xs, s, E1, fr, cl, e1, fun v H1 ⟨F, A, fr1⟩ => ?_⟩
  obtain ⟨F2, A2, fr2⟩ := fr1.frz0 e2
  simp only at e
  split at e
  · cases e
    obtain ⟨v', A1, ev, rfl, w, ew, r⟩ := fr2.ext (k := 0) rfl
    cases ev; cases ew
    cases r with
    | lst h1 h2 =>
      obtain ⟨A3, fr3⟩ := fr2.pop
      exact ⟨_, _, rfl, fr2.fh.seq h1, q F2 _ _ fr2.bf ⟨F2, A3, fr3.raise⟩ (itOk_rev h1 h2)⟩
  · cases e
theorem xi_range1 (hg : Gl X "range") (hm : X.mg "range" = none) (ha : AX X [e] m g) (hs : starEach [e] X.env = [(false, eval e X.env)] := by rfl) : IX X tg (.Call (.Name "range" p) [e] [] pos) m (iRng1P g) := pi_imp (pi_range1 hg hm ha hs) fun σ H R z => by
  obtain ⟨B, E, xs, Xs, ds, E', fr, cl, e, q⟩ := z
  obtain ⟨⟨rs, E1⟩, e1, e⟩ := Option.bind_eq_some_iff.mp e
  refine ⟨B, E, xs, Xs, rs, E1, fr, cl, e1, fun vs H1 hl ⟨F, A, fr1⟩ => ?_⟩
  simp only at e
  split at e
  · rename_i j ld
    split at e
    · rename_i hj
      cases e
      obtain ⟨r, A', fr2⟩ := fr1.looks hl ld
      obtain ⟨v, rfl, r'⟩ := r.one
      cases r'
      exact ⟨j, rfl, by omega, by omega, q B _ _ (Same.refl _) ⟨F, A', fr2⟩ itOk_range⟩
    · cases e
  · cases e
theorem xi_range2 (hg : Gl X "range") (hm : X.mg "range" = none) (ha : AX X [e, e2] m g) (hs : starEach [e, e2] X.env = [(false, eval e X.env), (false, eval e2 X.env)] := by rfl) (hs2 : starEach [e2] X.env = [(false, eval e2 X.env)] := by rfl) : IX X tg (.Call (.Name "range" p) [e, e2] [] pos) m (iRng2P g) := pi_imp (pi_range2 hg hm ha hs hs2) fun σ H R z => by
  obtain ⟨B, E, xs, Xs, ds, E', fr, cl, e, q⟩ := z
  obtain ⟨⟨rs, E1⟩, e1, e⟩ := Option.bind_eq_some_iff.mp e
  refine ⟨B, E, xs, Xs, rs, E1, fr, cl, e1, fun vs H1 hl ⟨F, A, fr1⟩ => ?_⟩
  simp only at e
  split at e
  · rename_i i j ld
    split at e
    · rename_i hj
      cases e
      obtain ⟨r, A', fr2⟩ := fr1.looks hl ld
      obtain ⟨v, u, rfl, r1, r2⟩ := r.two
      cases r1; cases r2
      exact ⟨i, j, rfl, by omega, q B _ _ (Same.refl _) ⟨F, A', fr2⟩ itOk_range⟩
    · cases e
  · cases e
end
noncomputable def pLoop (tg : PGv) (body : PSv) : List PyData → PSv
  | [], E => some (E, .nx)
  | d :: ds, E => ((tg d E).bind body).bind fun a => match a.2 with
    | .nx => pLoop tg body ds a.1
    | .ct => pLoop tg body ds a.1
    | .bk => some (a.1, .nx)
    | .rt r => some (a.1, .rt r)
noncomputable def pFor (it : PDv) (tg : PGv) (body : PSv) : PSv := fun E => (it E).bind fun a => pLoop tg body a.1 a.2
theorem xs_for {X : Cx} {tg iter : Expr} {body : List Stmt} {m : Bool} {it : PDv} {g : PGv} {b : PSv} {pos : Pos} (hp : PassesOwn (model X.prog X.w) X.A X.env X.xe) (hc : X.calm = true) (hi : IX X tg iter m it) (hg : GX X tg g) (hb : SSX X body b)
    (hs : ∀ x, foldedSetIterable iter X.env x = pure x := by intro _; rfl) : SX X (.For tg iter body [] pos) (pFor it g b) := ps_imp (ps_for hp hc hi hg hb hs) fun D σ H z => by
  obtain ⟨B, E, xs, Xs, E', fl, fr, cl, e, q⟩ := z
  obtain ⟨⟨ds, E1⟩, e1, e⟩ := Option.bind_eq_some_iff.mp e
  refine ⟨B, E, xs, Xs, ds, E1, fr, fun _ => Calm.nil cl, e1, fun B' J H1 hB fr1 ok => ?_⟩
  refine ⟨fun i mm σ' H' => mm = ds.length - i ∧ i ≤ ds.length ∧ ∃ Ei, pLoop g b (ds.drop i) Ei = some (E', fl) ∧ Frm X.K B' σ' H' Ei xs Xs, ⟨ds.length, by simp, Nat.zero_le _, E1, by simpa using e, fr1⟩, ?_⟩
  rintro i mm σ' H' ⟨rfl, hi, Ei, ei, F, A, fri⟩
  obtain ⟨go, stop⟩ := ok i (Same.refl _) fri
  by_cases hlt : i < ds.length
  · obtain ⟨d, ed⟩ : ∃ d, ds[i]? = some d := ⟨ds[i], List.getElem?_eq_getElem hlt⟩
    obtain ⟨g1, yl⟩ := go d ed
    have edr : ds.drop i = d :: ds.drop (i + 1) := by
      rw [List.drop_eq_getElem_cons hlt]
      congr 1
      exact Option.some.inj ((List.getElem?_eq_getElem hlt).symm.trans ed)
    rw [edr] at ei
    obtain ⟨⟨E2, f2⟩, e2, ei⟩ := Option.bind_eq_some_iff.mp ei
    obtain ⟨E3, e3, e2⟩ := Option.bind_eq_some_iff.mp e2
    refine .inr ⟨g1, fun σ2 H2 => ∃ Ej, pLoop g b (ds.drop (i + 1)) Ej = some (E', fl) ∧ Frm X.K B' σ2 H2 Ej xs Xs, fun σ2 H2 ⟨Ej, ej, frj⟩ => ⟨ds.length - (i + 1), by omega, rfl, hlt, Ej, ej, frj⟩, fun x H2 y => ?_⟩
    refine ⟨B', Ei, xs, Xs, d, E3, yl x H2 y, Still.nil cl, e3, fun σ3 H3 fr3 => ?_⟩
    refine ⟨B', E3, xs, Xs, E2, f2, fr3, cl, e2, ?_⟩
    cases f2 with
    | nx => exact fun σ4 H4 fr4 => ⟨E2, ei, fr4⟩
    | ct => exact fun σ4 H4 fr4 => ⟨E2, ei, fr4⟩
    | bk => cases ei; exact fun σ4 H4 fr4 => q _ _ (fr4.base hB)
    | rt r => cases ei; exact fun σ4 v H4 fr4 => q _ _ _ (fr4.base hB)
  · have e0 : i = ds.length := by omega
    refine .inl ⟨stop e0, ?_⟩
    rw [e0, List.drop_length] at ei
    cases ei
    exact q _ _ (Frm.base ⟨F, A, fri⟩ hB)
noncomputable def Clean : Sl → Bool
  | .sh d => flat d
  | .ow ds => flatA ds
  | .tx ps => ps.all fun p => match p with | .fl d => flat d | .ol ds => flatA ds
  | _ => false
noncomputable def startE (n : Nat) (ds : List PyData) : List Sl := ds.map .sh ++ List.replicate (n - ds.length) .no
noncomputable def outS (r : Sl) : Option Sl := if Clean r then some r else match r with
  | .sh d => some (.br d)
  | .ow ds => some (.br (.list ds))
  | .tx ps => some (.br (.tuple (ps.map Pt.val)))
  | .br d => some (if flat d then .sh d else .br d)
  | _ => none
noncomputable def runB (n : Nat) (g : PSv) : List PyData → Option Sl := fun ds => (g (startE n ds)).bind fun a => match a.2 with
  | .rt r => outS r
  | .nx => some (.sh .none)
  | _ => none
section
variable {K : PySem.W.Frag} {B F : Hp} {A : List Addr} {σ : SgT} {H : Hp} {E : List Sl} {v : V} {r : Sl}
theorem PtsOk.cold {F H G : Hp} (sF : Same F H) (tG : ∀ {v : V} {d : PyData}, Rp K F v d → flat d = true → Rp K G v d) : ∀ {vs : List V} {ps : List Pt} {A : List Addr}, (∀ p ∈ ps, (match p with | .fl d => flat d | .ol ds => flatA ds) = true) → PtsOk K F H vs ps A → PtsOk K G H vs ps A
  | [], [], A, _, h => h
  | v :: vs, .fl d :: ps, A, c, h => ⟨tG h.1 (c (.fl d) (List.mem_cons_self ..)), PtsOk.cold sF tG (fun p hp => c p (List.mem_cons_of_mem _ hp)) h.2⟩
  | v :: vs, .ol ds :: ps, A, c, h => by
    obtain ⟨l, us, A', rfl, rfl, hl, hr, q⟩ := h
    refine ⟨l, us, A', rfl, rfl, hl, ?_, q.cold sF tG fun p hp => c p (List.mem_cons_of_mem _ hp)⟩
    have cd : flatA ds = true := c (.ol ds) (List.mem_cons_self ..)
    have key : ∀ {us : List V} {ds : List PyData}, RpA K F us ds → flatA ds = true → RpA K G us ds := fun {us ds} r c => by
      induction us generalizing ds with
      | nil => cases r; exact .nil
      | cons u us ih =>
        cases r with
        | cons r1 r2 =>
          simp only [flatA, Bool.and_eq_true] at c
          exact .cons (tG r1 c.1) (ih r2 c.2)
    exact key hr cd
  | [], _ :: _, _, _, h => False.elim h
  | _ :: _, [], _, _, h => False.elim h
theorem FrF.result (h : FrF K B F A σ H E [v] [r]) (c : Clean r = true) : Same B H ∧ ResOk K B H v r := by
  refine ⟨h.bf.trans h.fh, ?_⟩
  have nB : ∀ a, F a = none → B a = none := fun a e => h.bf.free e
  have cold : ∀ {v : V} {d : PyData}, Rp K F v d → flat d = true → Rp K (tups H) v d := fun r f => (r.same h.fh).cold f
  obtain ⟨v', A1, ev, hs⟩ := h.ext (k := 0) rfl
  cases ev
  obtain ⟨o, C0, C1, C2, eA, eo, hp, _⟩ := h.sl.at (k := 0) (s := r) rfl
  cases eo
  have sub : ∀ a ∈ C1, F a = none := fun a ha => h.fr a (by rw [eA]; simp [ha])
  have nd : C1.Nodup := by
    have := h.nd
    rw [eA] at this
    exact (List.nodup_append.mp (List.nodup_append.mp this).2.1).1
  cases r with
  | sh d => obtain ⟨_, w, ew, r⟩ := hp; cases ew; exact cold r c
  | ow ds =>
    obtain ⟨l, vs, el, rfl, hl, r⟩ := hp
    cases el
    exact ⟨l, vs, rfl, nB l (sub l (by simp)), hl, (r.same h.fh).cold c⟩
  | tx ps =>
    obtain ⟨t, vs, et, ht, r⟩ := hp
    cases et
    exact ⟨t, vs, C1, rfl, tups_of (h.fh _ _ ht) rfl, nd, fun a ha => nB a (sub a ha), r.cold h.fh cold (by simpa [Clean, List.all_eq_true] using c)⟩
  | no => cases c
  | od kvs => cases c
  | al i => cases c
  | br d => cases c
theorem FrF.resultO {r' : Sl} (h : FrF K B F A σ H E [v] [r]) (c : outS r = some r') : Same B H ∧ ResOk K B H v r' := by
  unfold outS at c
  split at c
  · rename_i hc
    cases c
    exact h.result hc
  · refine ⟨h.bf.trans h.fh, ?_⟩
    cases r with
    | sh d => cases c; exact (h.look0 (d := d) rfl).1
    | ow ds => cases c; exact (h.look0 (d := .list ds) rfl).1
    | tx ps => cases c; exact (h.look0 (d := .tuple (ps.map Pt.val)) rfl).1
    | br d =>
      have r := (h.look0 (d := d) rfl).1
      simp only at c
      split at c
      · rename_i hf
        cases c
        exact r.cold hf
      · cases c
        exact r
    | no => cases c
    | od kvs => cases c
    | al i => cases c
theorem startFr {N : List Str} {vs : List V} {ds : List PyData} (r : RpA K H vs ds) (hn : ds.length ≤ N.length) : FrF K H H [] (L2.start N vs) H (startE N.length ds) [] [] := by
  refine ⟨Same.refl _, Same.refl _, tups_same H, ?_, List.nodup_nil, fun a ha => (by cases ha), rfl, ?_⟩
  · have l := r.len
    unfold L2.start startE
    rw [l]
    generalize N.length - ds.length = k
    have base : ∀ τ : SgT, SAll (SlOk K H H τ) (List.replicate k none) (List.replicate k .no) [] := fun τ => by
      induction k with
      | zero => exact .nil
      | succ k ih => exact .cons (A := []) rfl ih
    have key : ∀ (τ : SgT) {us : List V} {es : List PyData}, RpA K H us es → SAll (SlOk K H H τ) (us.map some ++ List.replicate k none) (es.map .sh ++ List.replicate k .no) [] := fun τ us es r => by
      induction us generalizing es with
      | nil => cases r; exact base τ
      | cons u us ih =>
        cases r with
        | cons r1 r2 => exact .cons (A := []) ⟨rfl, _, rfl, r1⟩ (ih _ r2)
    exact key _ r
  · intro s hs
    unfold startE at hs
    rcases List.mem_append.mp hs with hs | hs
    · obtain ⟨d, _, rfl⟩ := List.mem_map.mp hs
      rfl
    · rw [(List.mem_replicate.mp hs).2]
      rfl
end
noncomputable def fnB (k n : Nat) (g : PSv) : List PyData → Option Sl := fun ds => if ds.length = k then runB n g ds else none
theorem ownP {P : Program} {w : World} {K : PySem.W.Frag} {mg : Str → Option Value} {base : Heap} {x : Str} {st : Stmt} {N ps : List Str} {k a n : Nat} {g : PSv} (D : Def K mg x st ps) (S : FnScope N ps (defScope st)) (hpa : ps.length = a) (hNn : N.length = n) (hps : a ≤ n)
    (hbody : ∀ (f : Addr) (cdv : Value) (A : Around) (outer : List Env) (s : Shared) (H : Hp) (E : XK), Room k (A.deeper (PyProof.Rows.envOfC x (defScope st) s.heap.objs.size f cdv)) →
      SSX (cxOf CX0 P w K mg base N x (defScope st) f cdv A outer s H E).nox (defBody st) g) : Own P w K mg base (k + 1) x ps (spP K (fnB a n g)) := by
  subst hpa hNn
  refine D.own S (fun vs H Q E h => ?_) (fun f cdv A outer s H vs Q E hr h => ?_)
  · obtain ⟨ds, r, e, rp, _⟩ := h
    unfold fnB at e
    split at e
    · rename_i hl
      rw [rp.len]; exact hl
    · cases e
  obtain ⟨ds, r, e, rp, q⟩ := h
  unfold fnB at e
  split at e
  · rename_i hl
    refine ⟨_, hbody f cdv A outer s H E hr, ?_⟩
    obtain ⟨⟨E', fl⟩, e1, e⟩ := Option.bind_eq_some_iff.mp e
    refine ⟨H, startE N.length ds, [], [], E', fl, ⟨H, [], startFr rp (by omega)⟩, rfl, e1, ?_⟩
    cases fl with
    | nx =>
      cases e
      rintro σ' H' ⟨F', A', fr'⟩
      exact q _ _ (fr'.bf.trans fr'.fh) .non
    | bk => cases e
    | ct => cases e
    | rt r' =>
      rintro σ' v H' ⟨F', A', fr'⟩
      obtain ⟨s1, s2⟩ := fr'.resultO e
      exact q v H' s1 s2
  · cases e
theorem fnP {P : Program} {w : World} {K : PySem.W.Frag} {mg : Str → Option Value} {base : Heap} {x : Str} {st : Stmt} {N ps : List Str} {k a n : Nat} {g : PSv} {f0 : Addr} {fd : FuncData} (D : Fun K x x st f0 fd) (S : FnScope N ps (defScope st)) (hpa : ps.length = a) (hNn : N.length = n) (hps : a ≤ n)
    (hbody : ∀ (cdv : Value) (A : Around) (outer : List Env) (s : Shared) (H : Hp) (E : XK), Room k (A.deeper (PyProof.Rows.envOfC x (defScope st) s.heap.objs.size f0 cdv)) →
      SSX (cxOf CX0 P w K mg base N x (defScope st) f0 cdv A outer s H E).nox (defBody st) g) : FnOk P w K mg base CX0 (k + 1) f0 fd ps (spP K (fnB a n g)) := by
  subst hpa hNn
  refine D.ok S (fun vs H Q E h => ?_) (fun cdv A outer s H vs Q E hr h => ?_)
  · obtain ⟨ds, r, e, rp, _⟩ := h
    unfold fnB at e
    split at e
    · rename_i hl
      rw [rp.len]; exact hl
    · cases e
  obtain ⟨ds, r, e, rp, q⟩ := h
  unfold fnB at e
  split at e
  · rename_i hl
    refine ⟨_, hbody cdv A outer s H E hr, ?_⟩
    obtain ⟨⟨E', fl⟩, e1, e⟩ := Option.bind_eq_some_iff.mp e
    refine ⟨H, startE N.length ds, [], [], E', fl, ⟨H, [], startFr rp (by omega)⟩, rfl, e1, ?_⟩
    cases fl with
    | nx =>
      cases e
      rintro σ' H' ⟨F', A', fr'⟩
      exact q _ _ (fr'.bf.trans fr'.fh) .non
    | bk => cases e
    | ct => cases e
    | rt r' =>
      rintro σ' v H' ⟨F', A', fr'⟩
      obtain ⟨s1, s2⟩ := fr'.resultO e
      exact q v H' s1 s2
  · cases e
theorem rpA_intsR {K : PySem.W.Frag} {H : Hp} : ∀ ns : List Int, RpA K H (ns.map V.int) (ns.map PyData.int)
  | [] => .nil
  | n :: ns => .cons (.int n) (rpA_intsR ns)
theorem law_sp {K : PySem.W.Frag} {H : Hp} {a : Addr} {ns : List Int} {c : List PyData → Option Sl} (e : c [.list (ns.map .int)] = some (.sh (.bool true))) (h : SqL K H a (ns.map V.int)) : spP K c [.ref a] H (fun v _ => v = .bl true) fun _ _ _ => False :=
  ⟨_, _, e, .cons (.lst h (rpA_intsR ns)) .nil, fun v H' _ r => by
    have r' : Rp K (tups H') v (.bool true) := r
    cases r'
    rfl⟩
end PL
namespace PL
open PySem L2 Nh
noncomputable def slotE (E : List Sl) : Option Nat → Sl
  | none => .no
  | some j => match (E[j]?).bind Sl.val with
    | some d => .sh d
    | none => .no
noncomputable def slotsE (js : List (Option Nat)) (E : List Sl) : List Sl := js.map (slotE E)
noncomputable def tYesP : PTv := fun E => some (true, E)
noncomputable def cLoop (tg : PGv) (cond : PTv) (elt : PEv) : List PyData → List Sl → Option (List PyData)
  | [], _ => some []
  | d :: ds, E => (tg d E).bind fun E1 => (cond E1).bind fun b => if b.1 then (elt b.2).bind fun c => (frz c.2 c.1).bind fun e => (cLoop tg cond elt ds e.2).map fun r => e.1 :: r else cLoop tg cond elt ds b.2
noncomputable def pComp (js : List (Option Nat)) (it : PDv) (tg : PGv) (cond : PTv) (elt : PEv) : PEv := fun E => (it E).bind fun a => (cLoop tg cond elt a.1 (slotsE js a.2)).bind fun ds => if flatA ds && decide (ds.length ≤ 1000000) then some (.ow ds, a.2) else none
section
variable {X : Cx} {elt target iter : Expr} {ifs : List Expr} {scope sc : Scope} {cl : List (Str × Addr)} {N : List Str} {pos : Pos} {js : List (Option Nat)} {K : PySem.W.Frag}
theorem slots_fr {B F : Hp} {A : List Addr} {σ : SgT} {H : Hp} {E : List Sl} {xs : List V} {Xs : List Sl} (fr : FrF K B F A σ H E xs Xs) (js : List (Option Nat)) : FrF K H H [] (slots js σ) H (slotsE js E) [] [] := by
  refine ⟨Same.refl _, Same.refl _, tups_same H, ?_, List.nodup_nil, fun a ha => (by cases ha), rfl, fun s hs => ?_⟩
  · have key : ∀ (τ : SgT) (ks : List (Option Nat)), SAll (SlOk K H H τ) (slots ks σ) (slotsE ks E) [] := fun τ ks => by
      induction ks with
      | nil => exact .nil
      | cons j ks ih =>
        refine .cons (A := []) ?_ ih
        cases j with
        | none => exact rfl
        | some j =>
          show SlOk K H H τ _ (match (E[j]?).bind Sl.val with | some d => .sh d | none => .no) []
          cases ej : E[j]? with
          | none => exact rfl
          | some s =>
            cases ev : s.val with
            | none => simp only [Option.bind_some, ev]; exact rfl
            | some d =>
              simp only [Option.bind_some, ev]
              obtain ⟨o, A1, eo, hs⟩ := fr.var ej
              obtain ⟨v, rfl, r, _⟩ := hs.val fr.fh ev
              refine ⟨rfl, v, ?_, r⟩
              show (σ[j]?).join = some v
              rw [eo]
              rfl
    exact key _ js
  · obtain ⟨j, _, rfl⟩ := List.mem_map.mp hs
    cases j with
    | none => rfl
    | some j =>
      simp only [slotE]
      split <;> rfl
theorem comp_core {m2 m3 : Bool} {tg : PGv} {cond : PTv} {el : PEv} {tt : TT} (htt : ∀ σ H Q, rt K m2 cond σ H Q → tt σ H Q) {B B' F : Hp} {A : List Addr} {σ : SgT} {H1 : Hp} {E1 : List Sl} {xs : List V} {Xs : List Sl} {ds rs : List PyData} {J : It} {Q : VK}
    (fr1 : FrF K B F A σ H1 E1 xs Xs) (B2 : Same B' H1) (ok : ItOk K B' J ds) (e2 : cLoop tg cond el ds (slotsE js E1) = some rs) (hc : flatA rs = true ∧ rs.length ≤ 1000000) (q : ∀ v H', Frm K B σ H' E1 (v :: xs) (.ow rs :: Xs) → Q v H') (l : Addr) (hl : H1 l = none) :
    ∃ W : Nat → Nat → SgT → Hp → Prop, (∃ m, W 0 m (slots js σ) (upd H1 l (.lst []))) ∧
  ∀ i m σ' H', W i m σ' H' → (J.stop i H' ∧ Q (.ref l) H') ∨ (J.go i H' ∧ ∃ N : SgT → Hp → Prop, (∀ σ' H', N σ' H' → ∃ m', m' < m ∧ W (i + 1) m' σ' H') ∧ ∀ x H2, J.yld i H' x H2 → rg K tg x σ' H2 fun σ3 H3 => tt σ3 H3 fun b H4 =>
    if b = true then rd K m3 el σ3 H4 fun y H5 => ∃ ys, H5 l = some (.lst ys) ∧ ys.length < sizeLine ∧ N σ3 (upd H5 l (.lst (ys ++ [y]))) else N σ3 H4) := by
  have fr0 := (slots_fr fr1 js).newl (ds := []) .nil hl
  refine ⟨fun i mm σ' H' => mm = ds.length - i ∧ i ≤ ds.length ∧ ∃ Ei acc rest, cLoop tg cond el (ds.drop i) Ei = some rest ∧ rs = acc ++ rest ∧ Frm K H1 σ' H' Ei [.ref l] [.ow acc], ⟨ds.length, by simp, Nat.zero_le _, _, [], rs, by simpa using e2, rfl, ⟨_, _, fr0⟩⟩, ?_⟩
  rintro i mm σ' H' ⟨rfl, hi, Ei, acc, rest, ei, er, F', A', fri⟩
  obtain ⟨go, stop⟩ := ok i B2 fri
  by_cases hlt : i < ds.length
  · obtain ⟨d, ed⟩ : ∃ d, ds[i]? = some d := ⟨ds[i], List.getElem?_eq_getElem hlt⟩
    obtain ⟨g1, yl⟩ := go d ed
    have edr : ds.drop i = d :: ds.drop (i + 1) := by
      rw [List.drop_eq_getElem_cons hlt]
      congr 1
      exact Option.some.inj ((List.getElem?_eq_getElem hlt).symm.trans ed)
    rw [edr] at ei
    obtain ⟨E3, e3, ei⟩ := Option.bind_eq_some_iff.mp ei
    obtain ⟨⟨b, E4⟩, e4, ei⟩ := Option.bind_eq_some_iff.mp ei
    refine .inr ⟨g1, fun σ2 H2 => ∃ Ej acc rest, cLoop tg cond el (ds.drop (i + 1)) Ej = some rest ∧ rs = acc ++ rest ∧ Frm K H1 σ2 H2 Ej [.ref l] [.ow acc], fun σ2 H2 ⟨Ej, ac, rt, ej, er, frj⟩ => ⟨ds.length - (i + 1), by omega, rfl, hlt, Ej, ac, rt, ej, er, frj⟩, fun x H2 y => ?_⟩
    have clm : Calm [Sl.ow acc] := Calm.cons (fun s hs => absurd hs (by simp)) rfl
    refine ⟨H1, Ei, [.ref l], [.ow acc], d, E3, yl x H2 y, (fun s hs => by rw [List.mem_singleton.mp hs]; rfl), e3, fun σ3 H3 fr3 => htt _ _ _ ?_⟩
    refine ⟨H1, E3, [.ref l], [.ow acc], b, E4, fr3, fun _ => clm, e4, fun H4 fr4 => ?_⟩
    cases b with
    | false =>
      rw [if_neg (by decide)]
      exact ⟨E4, acc, rest, ei, er, fr4⟩
    | true =>
      rw [if_pos rfl]
      obtain ⟨⟨s5, E5⟩, e5, ei⟩ := Option.bind_eq_some_iff.mp ei
      obtain ⟨⟨d6, E6⟩, e6, ei⟩ := Option.bind_eq_some_iff.mp ei
      obtain ⟨rest', e7, ei⟩ := Option.map_eq_some_iff.mp ei
      subst ei
      refine ⟨H1, E4, [.ref l], [.ow acc], s5, E5, fr4, fun _ => clm, e5, fun y5 H5 ⟨F5, A5, fr5⟩ => ?_⟩
      obtain ⟨F6, A6, fr6⟩ := fr5.frz0 e6
      obtain ⟨v', C1, ev, rfl, w, ew, ry⟩ := fr6.ext (k := 0) rfl
      cases ev; cases ew
      obtain ⟨A7, fr7⟩ := fr6.pop
      -- the list under way is the one part that owns
      obtain ⟨bf, fh, tf, sl, nd, frn, len, pl⟩ := fr7
      generalize hT : List.map some [V.ref l] ++ σ3 = T at sl
      generalize hS : [Sl.ow acc] ++ E6 = S at sl
      cases sl with
      | nil => cases hS
      | cons q0 r0 =>
        injection hT with h1 hT
        injection hS with h2 hS
        subst h1 h2 hT hS
        obtain ⟨l', us, el, rfl, hl5, ru⟩ := q0
        cases el
        have lu := ru.len
        refine ⟨us, hl5, small (by rw [er] at hc; simp at hc; omega), E6, acc ++ [d6], rest', e7, by rw [er]; simp, F6, _, bf, fun b o qb => ?_, ?_, .cons (A := [l]) ⟨l, us ++ [y5], rfl, rfl, upd_same, ru.snoc ry⟩ (r0.mono fun o s C hs hC qq => qq.stay (Same.refl _) (fun b hb => upd_ne fun z => ?_) fun z => ?_), nd, frn, rfl, pl⟩
        · have lF : F6 l = none := frn l (by simp)
          rw [upd_ne (fun z => by rw [z, lF] at qb; cases qb)]
          exact fh _ _ qb
        · rw [tups_upd hl5]; exact tf
        · have := hC b hb
          rw [z] at this
          exact (List.nodup_cons.mp nd).1 this
        · have := pl s hs
          cases s <;> simp [Sl.isAl, Sl.isBr] at this z
  · have e0 : i = ds.length := by omega
    refine .inl ⟨stop e0, ?_⟩
    rw [e0, List.drop_length] at ei
    cases ei
    rw [List.append_nil] at er
    subst er
    obtain ⟨g1, g2⟩ := fri.result hc.1
    exact q _ _ (fr1.told g1 g2)
theorem rd_comp {m m2 m3 : Bool} {it : PDv} {tg : PGv} {cond : PTv} {el : PEv} {tt : TT} (htt : ∀ σ H Q, rt K m2 cond σ H Q → tt σ H Q) {σ : SgT} {H : Hp} {Q : VK} (z : rd K m (pComp js it tg cond el) σ H Q) : tComp js (ri K m it) (rg K tg) tt (rd K m3 el) σ H Q := by
  obtain ⟨B, E, xs, Xs, res, E', fr, cl, e, q⟩ := z
  obtain ⟨⟨ds, E1⟩, e1, e⟩ := Option.bind_eq_some_iff.mp e
  obtain ⟨rs, e2, e⟩ := Option.bind_eq_some_iff.mp e
  simp only at e
  split at e
  · rename_i hc
    cases e
    simp only [Bool.and_eq_true, decide_eq_true_eq] at hc
    exact ⟨B, E, xs, Xs, ds, _, fr, cl, e1, fun B' J H1 hB ⟨F, A, fr1⟩ ok l hl => comp_core htt (fr1.base hB) (fr1.bf.trans fr1.fh) ok e2 hc q l hl⟩
  · cases e
noncomputable def ri2 (K : PySem.W.Frag) (m : Bool) (f : PDv) : TI := fun σ H R => ∃ B E xs Xs ds E', Frm K B σ H E xs Xs ∧ (m = true → Calm Xs) ∧ f E = some (ds, E') ∧ ∀ J H', Frm K B σ H' E' xs Xs → ItOk K H' J ds → R J H'
noncomputable def IX2 (X : Cx) (tg e : Expr) (m : Bool) (f : PDv) : Prop := PI X tg e (ri2 X.K m f)
theorem rd_comp2 {m m2 m3 : Bool} {it : PDv} {tg : PGv} {cond : PTv} {el : PEv} {tt : TT} (htt : ∀ σ H Q, rt K m2 cond σ H Q → tt σ H Q) {σ : SgT} {H : Hp} {Q : VK} (z : rd K m (pComp js it tg cond el) σ H Q) : tComp js (ri2 K m it) (rg K tg) tt (rd K m3 el) σ H Q := by
  obtain ⟨B, E, xs, Xs, res, E', fr, cl, e, q⟩ := z
  obtain ⟨⟨ds, E1⟩, e1, e⟩ := Option.bind_eq_some_iff.mp e
  obtain ⟨rs, e2, e⟩ := Option.bind_eq_some_iff.mp e
  simp only at e
  split at e
  · rename_i hc
    cases e
    simp only [Bool.and_eq_true, decide_eq_true_eq] at hc
    exact ⟨B, E, xs, Xs, ds, _, fr, cl, e1, fun J H1 ⟨F, A, fr1⟩ ok l hl => comp_core htt fr1 (Same.refl _) ok e2 hc q l hl⟩
  · cases e
theorem xe_comp0 {m m3 : Bool} {it : PDv} {tg : PGv} {el : PEv} (C : CompOk X scope sc cl N js) (hc : X.calm = true) (hi : IX X target iter m it) (hg : ∀ C s₀ H₀ fp, GX (X.comp sc cl N C s₀ H₀ fp) target tg) (he : ∀ C s₀ H₀ fp, EX (X.comp sc cl N C s₀ H₀ fp) elt m3 el)
    (hs : ∀ x, foldedSetIterable iter X.env x = pure x := by intro _; rfl) : EX X (.ListComp elt [⟨target, iter, [], 0⟩] scope pos) m (pComp js it tg tYesP el) :=
  pe_imp (pe_comp (g := rg X.K tg) (te := rd X.K m3 el) C hc hi hg (fun _ _ _ _ => pts_nil) he hs) fun σ H Q z => rd_comp (m2 := false) (fun σ H Q z => by
    obtain ⟨B, E, xs, Xs, b, E', fr, cl, e, q⟩ := z
    cases e
    exact q _ fr) z
theorem xe_comp1 {c : Expr} {m m2 m3 : Bool} {it : PDv} {tg : PGv} {cond : PTv} {el : PEv} (C : CompOk X scope sc cl N js) (hc : X.calm = true) (hi : IX X target iter m it) (hg : ∀ C s₀ H₀ fp, GX (X.comp sc cl N C s₀ H₀ fp) target tg) (ht : ∀ C s₀ H₀ fp, TX (X.comp sc cl N C s₀ H₀ fp) c m2 cond) (he : ∀ C s₀ H₀ fp, EX (X.comp sc cl N C s₀ H₀ fp) elt m3 el)
    (hs : ∀ x, foldedSetIterable iter X.env x = pure x := by intro _; rfl) : EX X (.ListComp elt [⟨target, iter, [c], 0⟩] scope pos) m (pComp js it tg cond el) :=
  pe_imp (pe_comp (g := rg X.K tg) (te := rd X.K m3 el) (tt := rt X.K m2 cond) C hc hi hg (fun _ _ _ _ => pts_one (ht _ _ _ _)) he hs) fun σ H Q z => rd_comp (m2 := m2) (fun _ _ _ z => z) z
noncomputable def iKeep (f : PEv) : PDv := fun E => (f E).bind fun a => match look a.2 a.1 with
  | some (.list ds) => some (ds, a.2)
  | _ => none
theorem xi_keep {tg e : Expr} {m : Bool} {f : PEv} (he : EX X e m f) : IX2 X tg e m (iKeep f) := pi_imp (pi_list he) fun σ H R z => by
  obtain ⟨B, E, xs, Xs, ds, E', fr, cl, e, q⟩ := z
  obtain ⟨⟨s, E1⟩, e1, e⟩ := Option.bind_eq_some_iff.mp e
  simp only at e
  split at e
  · rename_i ds' ld
    cases e
    refine ⟨B, E, xs, Xs, s, _, fr, cl, e1, fun v H1 ⟨F, A, fr1⟩ => ?_⟩
    obtain ⟨r, _⟩ := fr1.look0 ld
    obtain ⟨A', fr2⟩ := fr1.pop
    cases r with
    | lst h1 h2 => exact ⟨_, rfl, ⟨_, h1⟩, q _ _ ⟨F, A', fr2⟩ (itOk_list h1 h2)⟩
  · cases e
theorem xe_compK0 {m m3 : Bool} {it : PDv} {tg : PGv} {el : PEv} (C : CompOk X scope sc cl N js) (hc : X.calm = true) (hi : IX2 X target iter m it) (hg : ∀ C s₀ H₀ fp, GX (X.comp sc cl N C s₀ H₀ fp) target tg) (he : ∀ C s₀ H₀ fp, EX (X.comp sc cl N C s₀ H₀ fp) elt m3 el)
    (hs : ∀ x, foldedSetIterable iter X.env x = pure x := by intro _; rfl) : EX X (.ListComp elt [⟨target, iter, [], 0⟩] scope pos) m (pComp js it tg tYesP el) :=
  pe_imp (pe_comp (g := rg X.K tg) (te := rd X.K m3 el) C hc hi hg (fun _ _ _ _ => pts_nil) he hs) fun σ H Q z => rd_comp2 (m2 := false) (fun σ H Q z => by
    obtain ⟨B, E, xs, Xs, b, E', fr, cl, e, q⟩ := z
    cases e
    exact q _ fr) z
end
end PL
namespace PL
open PySem L2 Nh
noncomputable def keyOf : PyData → Option Key
  | .int i => some (.inl i)
  | .str x => some (.inr x)
  | _ => none
theorem keyOf_D {d : PyData} {k : Key} (h : keyOf d = some k) : d = keyD k := by
  cases d <;> simp [keyOf] at h <;> subst h <;> rfl
theorem keyOf_keyD (k : Key) : keyOf (keyD k) = some k := by cases k <;> rfl
noncomputable def keysOf : List (PyData × PyData) → Option (List Key)
  | [] => some []
  | p :: r => (keyOf p.1).bind fun k => (keysOf r).map fun ks => k :: ks
noncomputable def getK : List (PyData × PyData) → Key → Option PyData
  | [], _ => none
  | p :: r, k => if keyOf p.1 = some k then some p.2 else getK r k
noncomputable def pPairs : List (PEv × PEv) → List Sl → Option (List (PyData × PyData) × List Sl)
  | [], E => some ([], E)
  | p :: r, E => (p.1 E).bind fun a => (frz a.2 a.1).bind fun ka => (p.2 ka.2).bind fun b => (frz b.2 b.1).bind fun vb => (pPairs r vb.2).map fun c => ((ka.1, vb.1) :: c.1, c.2)
noncomputable def pDisp (ps : List (PEv × PEv)) : PEv := fun E => (pPairs ps E).bind fun a => match keysOf a.1 with
  | some ks => if decide ks.Nodup && decide (ks.length ≤ 15) then some (.sh (.dict a.1), a.2) else none
  | none => none
noncomputable def trsP (K : PySem.W.Frag) (ps : List (PEv × PEv)) : List (TE × TE) := ps.map fun p => (rd K true p.1, rd K true p.2)
noncomputable def pairV : List (V × V) → List V
  | [] => []
  | p :: r => pairV r ++ [p.2, p.1]
noncomputable def pairS : List (PyData × PyData) → List Sl
  | [] => []
  | p :: r => pairS r ++ [.sh p.2, .sh p.1]
section
variable {X : Cx} {K : PySem.W.Frag} {B F : Hp} {σ : SgT} {H : Hp} {E : List Sl} {xs : List V} {Xs : List Sl}
theorem rd_up {m : Bool} {f : PEv} {Q : VK} (h : rd K true f σ H Q) : rd K m f σ H Q := by
  obtain ⟨B, E, xs, Xs, r, E', fr, c, e, q⟩ := h
  exact ⟨B, E, xs, Xs, r, E', fr, fun _ => c rfl, e, q⟩
theorem rd_pairs : ∀ (ps : List (PEv × PEv)) {H : Hp} {E : List Sl} {xs : List V} {Xs : List Sl} {r : List (PyData × PyData)} {E' : List Sl} {Q : List (V × V) → Hp → Prop}, Frm K B σ H E xs Xs → Calm Xs → pPairs ps E = some (r, E') →
    (∀ vs H', vs.length = r.length → Frm K B σ H' E' (pairV vs ++ xs) (pairS r ++ Xs) → Q vs H') → tPairs (trsP K ps) σ H Q
  | [], H, E, xs, Xs, r, E', Q, fr, c, e, q => by
    cases e
    exact q [] H rfl fr
  | (f, g) :: ps, H, E, xs, Xs, r, E', Q, fr, c, e, q => by
    obtain ⟨⟨s1, E1⟩, e1, e⟩ := Option.bind_eq_some_iff.mp e
    obtain ⟨⟨d1, E2⟩, e2, e⟩ := Option.bind_eq_some_iff.mp e
    obtain ⟨⟨s3, E3⟩, e3, e⟩ := Option.bind_eq_some_iff.mp e
    obtain ⟨⟨d4, E4⟩, e4, e⟩ := Option.bind_eq_some_iff.mp e
    obtain ⟨⟨r5, E5⟩, e5, e⟩ := Option.map_eq_some_iff.mp e
    cases e
    refine ⟨B, E, xs, Xs, s1, E1, fr, fun _ => c, e1, fun x H1 ⟨F1, A1, fr1⟩ => ?_⟩
    obtain ⟨F2, A2, fr2⟩ := fr1.frz0 e2
    refine ⟨B, E2, x :: xs, .sh d1 :: Xs, s3, E3, ⟨F2, A2, fr2⟩, fun _ => c.cons rfl, e3, fun y H2 ⟨F3, A3, fr3⟩ => ?_⟩
    obtain ⟨F4, A4, fr4⟩ := fr3.frz0 e4
    refine rd_pairs ps ⟨F4, A4, fr4⟩ ((c.cons rfl).cons rfl) e5 fun vs H' l fr5 => q _ _ (by simp [l]) ?_
    simpa [pairV, pairS] using fr5
theorem FrF.unflat : ∀ {vs : List (V × V)} {r : List (PyData × PyData)} {A : List Addr} {xs : List V} {Xs : List Sl}, vs.length = r.length → FrF K B F A σ H E (pairV vs ++ xs) (pairS r ++ Xs) →
    (∃ A', FrF K B F A' σ H E xs Xs) ∧ Paired (fun p q => Rp K F p.1 q.1 ∧ Rp K F p.2 q.2) vs r
  | [], [], A, xs, Xs, _, h => ⟨⟨A, h⟩, .nil⟩
  | (x, y) :: vs, (k, d) :: r, A, xs, Xs, l, h => by
    obtain ⟨⟨A', h1⟩, p⟩ := FrF.unflat (vs := vs) (r := r) (xs := y :: x :: xs) (Xs := .sh d :: .sh k :: Xs) (by simpa using l) (by simpa [pairV, pairS] using h)
    obtain ⟨v1, C1, ev1, rfl, w1, ew1, r1⟩ := h1.ext (k := 0) rfl
    obtain ⟨v2, C2, ev2, rfl, w2, ew2, r2⟩ := h1.ext (k := 1) rfl
    cases ev1; cases ew1; cases ev2; cases ew2
    obtain ⟨A1, h2⟩ := h1.pop
    obtain ⟨A2, h3⟩ := h2.pop
    exact ⟨⟨A2, h3⟩, .cons ⟨r2, r1⟩ p⟩
  | [], _ :: _, _, _, _, l, _ => by simp at l
  | _ :: _, [], _, _, _, l, _ => by simp at l
theorem FrF.newd {p : Addr} {A : List Addr} (h : FrF K B F A σ H E xs Xs) (hp : H p = none) : FrF K B F (p :: A) σ (upd H p (.dK [])) E (.ref p :: xs) (.od [] :: Xs) := by
  have g : Same H (upd H p (.dK [])) := same_new hp _
  have nA := h.newA hp
  refine ⟨h.bf, h.fh.trans g, fun b o e => ?_, .cons (A := [p]) ⟨p, [], rfl, rfl, upd_same, .nil⟩ (h.sl.mono fun o s C _ hC q => q.stay (Same.refl _) (fun b hb => upd_ne fun z => nA (z ▸ hC b hb)) fun _ => g), List.nodup_cons.mpr ⟨nA, h.nd⟩, fun a ha => ?_, by simp [h.len], h.pl⟩
  · obtain ⟨e1, e2⟩ := Option.filter_eq_some_iff.mp e
    by_cases hb : b = p
    · subst hb; rw [upd_same] at e1; cases e1; cases e2
    · rw [upd_ne hb] at e1; exact h.tf b o (tups_of e1 e2)
  · rcases List.mem_cons.mp ha with z | z
    · subst z; exact h.fh.free hp
    · exact h.fr a z
theorem FrF.filld {v : V} {kvs : List (Key × PyData)} {us : List (Key × V)} {r : List (PyData × PyData)} {A : List Addr} (h : FrF K B F A σ H E (v :: xs) (.od kvs :: Xs)) (c : Calm Xs) (hr : RpK K F us r) :
    ∃ p, v = .ref p ∧ (∃ us0, H p = some (.dK us0) ∧ KvOk K F us0 kvs) ∧ Frm K B σ (upd H p (.dK us)) E (.ref p :: xs) (.sh (.dict r) :: Xs) := by
  obtain ⟨bf, fh, tf, sl, nd, fr, len, pl⟩ := h
  generalize hT : List.map some (v :: xs) ++ σ = T at sl
  generalize hS : (Sl.od kvs :: Xs) ++ E = S at sl
  cases sl with
  | nil => cases hS
  | cons q0 r0 =>
    injection hT with h1 hT
    injection hS with h2 hS
    subst h1 h2 hT hS
    obtain ⟨p, us0, ep, rfl, hp, k0⟩ := q0
    cases ep
    have Fp : F p = none := fr p (by simp)
    have gF : Same F (upd F p (.dK us)) := same_new Fp _
    refine ⟨p, rfl, ⟨us0, hp, k0⟩, upd F p (.dK us), _, bf.trans gF, fun b o e => ?_, fun b o e => ?_, .cons (A := []) ⟨rfl, _, rfl, .dct (.inl upd_same) (hr.same gF)⟩ (r0.mono fun o s C hs hC qq => qq.stay gF (fun b hb => upd_ne fun z => ?_) fun z => ?_), (List.nodup_append.mp nd).2.1, fun a ha => ?_, by simpa using len, pl⟩
    · by_cases hb : b = p
      · subst hb; rw [upd_same] at e ⊢; exact e
      · rw [upd_ne hb] at e ⊢; exact fh _ _ e
    · obtain ⟨e1, e2⟩ := Option.filter_eq_some_iff.mp e
      by_cases hb : b = p
      · subst hb; rw [upd_same] at e1; cases e1; cases e2
      · rw [upd_ne hb] at e1 ⊢; exact tf b o (tups_of e1 e2)
    · have := hC b hb
      rw [z] at this
      exact (List.nodup_cons.mp nd).1 this
    · rcases List.mem_append.mp hs with hs | hs
      · rw [c s hs] at z; cases z
      · have := pl s hs
        cases s <;> simp [Sl.isAl, Sl.isBr] at this z
    · have hb : a ≠ p := fun z => (List.nodup_cons.mp nd).1 (z ▸ ha)
      rw [upd_ne hb]
      exact fr a (List.mem_append_right _ (by simpa using ha))
theorem valV_none {k : Key} : ∀ {kvs : List (Key × V)}, ¬ k ∈ kvs.map (·.1) → valV kvs k = none
  | [], _ => rfl
  | p :: r, h => by
    rw [valV_neg fun e => h (by simp [e])]
    exact valV_none fun m => h (by simp at m ⊢; exact .inr m)
theorem mergeK_nd : ∀ (more kvs : List (Key × V)), ((kvs ++ more).map (·.1)).Nodup → mergeK kvs more = kvs ++ more
  | [], kvs, _ => by simp [mergeK]
  | p :: r, kvs, h => by
    have hn : ¬ p.1 ∈ kvs.map (·.1) := fun m => by
      rw [List.map_append, List.map_cons] at h
      exact (List.nodup_append.mp h).2.2 _ m _ (by simp) rfl
    have e : putK kvs p.1 p.2 = kvs ++ [p] := putK_new p.2 (valV_none hn)
    show mergeK (putK kvs p.1 p.2) r = _
    rw [e, mergeK_nd r (kvs ++ [p]) (by simpa using h)]
    simp
theorem rp_key {v : V} {k : Key} (h : Rp K H v (keyD k)) : v = kV k := by
  cases k with
  | inl i => cases h; rfl
  | inr x => cases h; rfl
theorem keyed : ∀ {vs : List (V × V)} {r : List (PyData × PyData)} {ks : List Key}, Paired (fun p q => Rp K F p.1 q.1 ∧ Rp K F p.2 q.2) vs r → keysOf r = some ks →
    ∃ us : List (Key × V), vs = us.map (fun kv => (kV kv.1, kv.2)) ∧ us.map (·.1) = ks ∧ RpK K F us r
  | _, _, ks, .nil, e => by cases e; exact ⟨[], rfl, rfl, .nil⟩
  | _, _, ks, .cons (a := (x, y)) (b := (kd, d)) h t, e => by
    obtain ⟨k, e1, e⟩ := Option.bind_eq_some_iff.mp e
    obtain ⟨ks', e2, e⟩ := Option.map_eq_some_iff.mp e
    subst e
    obtain ⟨us, rfl, e3, hr⟩ := keyed t e2
    have ek := keyOf_D e1
    simp only at ek h
    subst ek
    obtain rfl := rp_key h.1
    exact ⟨(k, y) :: us, rfl, by simp [e3], .cons h.2 hr⟩
theorem rd_disp {ps : List (PEv × PEv)} {Q : VK} (z : rd K true (pDisp ps) σ H Q) : tDisp (trsP K ps) σ H Q := by
  obtain ⟨B, E, xs, Xs, res, E', fr, c, e, q⟩ := z
  obtain ⟨⟨r, E1⟩, e1, e⟩ := Option.bind_eq_some_iff.mp e
  simp only at e
  split at e
  · rename_i ks ek
    split at e
    · rename_i hc
      cases e
      simp only [Bool.and_eq_true, decide_eq_true_eq] at hc
      intro p hp
      obtain ⟨F, A, fr⟩ := fr
      refine rd_pairs ps ⟨_, _, fr.newd hp⟩ ((c rfl).cons rfl) e1 fun vs H' l ⟨F1, A1, fr1⟩ => ?_
      obtain ⟨⟨A2, fr2⟩, pr⟩ := fr1.unflat l
      obtain ⟨us, ev, ek', hr⟩ := keyed pr ek
      obtain ⟨p', ep, ⟨us0, hp0, k0⟩, fr3⟩ := fr2.filld (c rfl) hr
      cases ep
      cases k0
      refine ⟨hp0, us, ev, ?_, ?_⟩
      · have : us.length = ks.length := by rw [← ek', List.length_map]
        omega
      · rw [mergeK_nd us [] (by simpa [ek'] using hc.1), List.nil_append]
        exact q _ _ fr3
    · cases e
  · cases e
end
section
variable {X : Cx} {pos apos cpos : Pos} {o e f : Expr} {m m1 m2 : Bool}
noncomputable def PX (X : Cx) (pos : Pos) (keys : List (Option Expr)) (values : List Expr) (ps : List (PEv × PEv)) : Prop := PPs X pos keys values (trsP X.K ps)
theorem xp_nil : PX X pos [] [] [] := pps_nil
theorem xp_cons {k v : Expr} {ks : List (Option Expr)} {vs : List Expr} {fk fv : PEv} {ps : List (PEv × PEv)} (hk : EX X k m1 fk) (hv : EX X v m2 fv) (hr : PX X pos ks vs ps) : PX X pos (some k :: ks) (v :: vs) ((fk, fv) :: ps) :=
  pps_cons (pe_imp hk fun _ _ _ h => rd_up h) (pe_imp hv fun _ _ _ h => rd_up h) hr
theorem xe_disp {keys : List (Option Expr)} {values : List Expr} {ps : List (PEv × PEv)} (h : PX X pos keys values ps) (hall : keys.all (·.isSome) = true := by rfl) (hl : keys.length = values.length := by rfl) (h0 : keys ≠ [] := by simp) (h15 : keys.length ≤ 15 := by decide) :
    EX X (.Dict keys values pos) true (pDisp ps) := pe_imp (pe_disp h hall hl h0 h15) fun _ _ _ z => rd_disp z
noncomputable def pGet2 (fo fk fd : PEv) : PEv := fun E => (fo E).bind fun a => match look a.2 a.1 with
  | some (.dict _) => (fk a.2).bind fun b => (fd b.2).bind fun c => match look c.2 a.1, look c.2 b.1, look c.2 c.1 with
    | some (.dict kvs), some k, some d => (keyOf k).bind fun k => if flat ((getK kvs k).getD d) then some (.sh ((getK kvs k).getD d), c.2) else none
    | _, _, _ => none
  | _ => none
theorem rp_getK {K : PySem.W.Frag} {H : Hp} {k : Key} {z : V} {d : PyData} (hz : Rp K H z d) : ∀ {us : List (Key × V)} {kvs : List (PyData × PyData)}, RpK K H us kvs → Rp K H ((valV us k).getD z) ((getK kvs k).getD d)
  | _, _, .nil => hz
  | _, _, .cons (k := k') (x := x) (us := us) h t => by
    by_cases e : k' = k
    · rw [valV_pos (p := (k', x)) e]
      simp only [getK, keyOf_keyD, e, if_true, Option.getD_some]
      exact h
    · rw [valV_neg (p := (k', x)) e]
      simp only [getK, keyOf_keyD, Option.some.injEq, e, if_false]
      exact rp_getK hz t
theorem xe_get2 {fo fk fd : PEv} (hu : X.A.units + 64 < cLine) (ho : EX X o m fo) (hk : EX X e false fk) (hd : EX X f false fd) (hm : M2 X o "get" apos e f cpos := by exact ⟨rfl, rfl, rfl, rfl⟩) : EX X (.Call (.Attribute o "get" apos) [e, f] [] cpos) m (pGet2 fo fk fd) := by
  refine pe_imp (pe_dget2 (by omega) ho hk hd hm) fun σ H Q z => ?_
  obtain ⟨B, E, xs, Xs, res, E', fr, c, e, q⟩ := z
  obtain ⟨⟨s1, E1⟩, e1, e⟩ := Option.bind_eq_some_iff.mp e
  simp only at e
  split at e
  · rename_i kv1 l1
    obtain ⟨⟨s2, E2⟩, e2, e⟩ := Option.bind_eq_some_iff.mp e
    obtain ⟨⟨s3, E3⟩, e3, e⟩ := Option.bind_eq_some_iff.mp e
    simp only at e
    split at e
    · rename_i kvs kd d la lb lc
      obtain ⟨k, ek, e⟩ := Option.bind_eq_some_iff.mp e
      split at e
      · rename_i hf
        cases e
        refine ⟨B, E, xs, Xs, s1, E1, fr, c, e1, fun x H1 ⟨F1, A1, fr1⟩ => ?_⟩
        obtain ⟨r1, _⟩ := fr1.look0 l1
        cases r1 with
        | dct h1 h2 =>
          refine ⟨_, rfl, .inl ⟨_, h1⟩, B, E1, _, _, s2, E2, ⟨F1, A1, fr1⟩, (fun z => by cases z), e2, fun y H2 fr2 => ?_⟩
          refine ⟨B, E2, _, _, s3, _, fr2, (fun z => by cases z), e3, fun w H3 ⟨F3, A3, fr3⟩ => ?_⟩
          obtain ⟨v0, ev0, ra, _⟩ := fr3.look (k := 2) rfl la
          obtain ⟨v1, ev1, rb, _⟩ := fr3.look (k := 1) rfl lb
          obtain ⟨v2, ev2, rc, _⟩ := fr3.look (k := 0) rfl lc
          cases ev0; cases ev1; cases ev2
          cases ra with
          | dct h3 h4 =>
            have ekd := keyOf_D ek
            subst ekd
            refine ⟨_, .inl ⟨_, k, h3, rp_key rb, rfl⟩, q _ _ ?_⟩
            have rr := fr3.cold (rp_getK (k := k) rc h4) hf
            obtain ⟨A4, fr4⟩ := fr3.pop
            obtain ⟨A5, fr5⟩ := fr4.pop
            obtain ⟨A6, fr6⟩ := fr5.pop
            exact ⟨F3, A6, fr6.push ⟨rfl, _, rfl, rr⟩⟩
      · cases e
    · cases e
  · cases e
end
end PL
namespace PL
open PySem L2 Nh
theorem rs_set {K : PySem.W.Frag} {m : Bool} {i : Nat} {f : PEv} {D : Ends} {σ : SgT} {H : Hp} (z : rs K (pSet i f) D σ H) : rd K m f σ H fun v H1 => gName i v σ H1 D.nx := by
  obtain ⟨B, E, xs, Xs, E', fl, fr, cl, e, q⟩ := z
  obtain ⟨⟨s, E1⟩, e1, e⟩ := Option.bind_eq_some_iff.mp e
  obtain ⟨⟨s', E2⟩, e2, e⟩ := Option.bind_eq_some_iff.mp e
  refine ⟨B, E, xs, Xs, s, E1, fr, fun _ => Calm.nil cl, e1, fun v H1 ⟨F, A, fr1⟩ => ?_⟩
  obtain ⟨c1, F2, A2, fr2⟩ := fr1.settle cl e2
  simp only at e
  split at e
  · rename_i hi
    cases e
    obtain ⟨A3, fr3⟩ := fr2.store c1 (Still.nil cl) hi
    exact q _ _ ⟨F2, A3, fr3⟩
  · cases e
section
variable {X : Cx} {elt target iter : Expr} {scope sc : Scope} {cl : List (Str × Addr)} {N : List Str} {pos spos px : Pos} {js : List (Option Nat)} {x : Str}
theorem xs_setC0 {m m3 : Bool} {it : PDv} {tg : PGv} {el : PEv} (i : Nat) (hN : X.N.Nodup) (C : CompOk X scope sc cl N js) (hc : X.calm = true) (h : IX X target iter m it) (hg : ∀ C s₀ H₀ fp, GX (X.comp sc cl N C s₀ H₀ fp) target tg) (he : ∀ C s₀ H₀ fp, EX (X.comp sc cl N C s₀ H₀ fp) elt m3 el)
    (hi : X.N[i]? = some x := by rfl) (hx : Loc X.env.scope x := by first | exact Or.inl rfl | exact Or.inr rfl) (hf : X.fn x = true ∨ X.env.scope.names.lookup x = some .local := by first | exact .inl rfl | exact .inr rfl | assumption)
    (hs : ∀ x, foldedSetIterable iter X.env x = pure x := by intro _; rfl) (hsw : swapsWith (.ListComp elt [⟨target, iter, [], 0⟩] scope pos) (some (.Name x px)) spos.line X.env = pure true := by rfl) :
    SX X (.Assign [.Name x px] (.ListComp elt [⟨target, iter, [], 0⟩] scope pos) spos) (pSet i (pComp js it tg tYesP el)) :=
  ps_imp (ps_comp (g := rg X.K tg) (te := rd X.K m3 el) C hc (pg_name hN hi hx hf) h hg (fun _ _ _ _ => pts_nil) he hs hsw) fun D σ H z => rd_comp (m2 := false) (fun σ H Q z => by
    obtain ⟨B, E, xs, Xs, b, E', fr, cl, e, q⟩ := z
    cases e
    exact q _ fr) (rs_set z)
end
noncomputable def intC : Const → Option Int
  | .int i => some i
  | _ => none
noncomputable def intE : Expr → Option Int
  | .Constant c _ _ => intC c
  | _ => none
noncomputable def intConsts : List Expr → Option (List Int)
  | [] => some []
  | e :: r => (intE e).bind fun i => (intConsts r).map (i :: ·)
noncomputable def dInts (ns : List Int) : PDv := fun E => some (ns.map .int, E)
theorem intE_c {e : Expr} {i : Int} (h : intE e = some i) : ∃ k p, e = .Constant (.int i) k p := by
  unfold intE at h
  split at h
  · unfold intC at h
    split at h
    · cases h; exact ⟨_, _, rfl⟩
    · cases h
  · cases h
theorem xd_ints {X : Cx} : ∀ {es : List Expr} {ns : List Int}, intConsts es = some ns → DX X es false (dInts ns)
  | [], ns, h => by cases h; exact xd_nil
  | e :: es, ns, h => by
    obtain ⟨i, h0, h⟩ := Option.bind_eq_some_iff.mp h
    obtain ⟨ms, h1, h⟩ := Option.map_eq_some_iff.mp h
    subst h
    obtain ⟨k, p, rfl⟩ := intE_c h0
    exact xd_cons (m1 := false) (m2 := false) xe_int (xd_ints h1) rfl
noncomputable def getL (body : List Stmt) (k : Nat) : List Expr := match body[k]? with
  | some (.Assign _ (.Subscript (.List es _) _ _) _) => es
  | _ => []
noncomputable def setL (es : List Expr) : Stmt → Stmt
  | .Assign t (.Subscript (.List _ p) i q) r => .Assign t (.Subscript (.List es p) i q) r
  | s => s
noncomputable def putL (es : List Expr) : Nat → List Stmt → List Stmt
  | _, [] => []
  | 0, s :: r => setL es s :: r
  | k + 1, s :: r => s :: putL es k r
theorem cut_consts {X : Cx} {body : List Stmt} {g : PSv} (k : Nat) (ns : List Int) (h : intConsts (getL body k) = some ns) (hb : putL (getL body k) k body = body) (key : ∀ es, intConsts es = some ns → SSX X (putL es k body) g) : SSX X body g := by
  have := key _ h
  rw [hb] at this
  exact this
end PL
namespace PL
open PySem L2 Nh
theorem atI_nat' {α : Type} (xs : List α) (k : Nat) : atI xs (k : Int) = xs[k]? := by
  unfold atI ixN
  rw [if_pos (by omega)]
  split
  · simp
  · rw [List.getElem?_eq_none (by omega)]; rfl
theorem atI_0 {α : Type} (a : α) (l : List α) : atI (a :: l) 0 = some a := atI_nat' (a :: l) 0
theorem atI_1 {α : Type} (a b : α) (l : List α) : atI (a :: b :: l) 1 = some b := atI_nat' (a :: b :: l) 1
theorem atI_2 {α : Type} (a b c : α) (l : List α) : atI (a :: b :: c :: l) 2 = some c := atI_nat' (a :: b :: c :: l) 2
theorem atI_lst {α : Type} (l : List α) (a : α) : atI (l ++ [a]) (-1) = some a := by
  unfold atI ixN
  rw [if_neg (by omega), if_pos (by simp; omega)]
  have e : (-1 + (((l ++ [a]).length : Nat) : Int)).toNat = l.length := by simp; omega
  rw [e]
  simp
theorem atI_nn {α : Type} {xs : List α} {i : Int} (h : 0 ≤ i) : atI xs i = xs[i.toNat]? := by
  have e : i = ((i.toNat : Nat) : Int) := by omega
  rw [e, atI_nat', Int.toNat_natCast]
theorem get_lst {α : Type} (l : List α) (a : α) : (l ++ [a])[(l ++ [a]).length - 1]? = some a := by simp
theorem emp_lst {α : Type} (l : List α) (a : α) : (l ++ [a]).isEmpty = false := by cases l <;> rfl
theorem flatA_all : ∀ {a : List PyData}, (∀ d ∈ a, flat d = true) → flatA a = true
  | [], _ => rfl
  | x :: a, h => by simp [flatA, h x (List.mem_cons_self ..), flatA_all fun d hd => h d (List.mem_cons_of_mem _ hd)]
theorem flatA_map {α : Type} {f : α → PyData} (h : ∀ a, flat (f a) = true) (l : List α) : flatA (l.map f) = true := flatA_all fun d hd => by
  obtain ⟨a, _, rfl⟩ := List.mem_map.mp hd
  exact h a
theorem flat_pc (p : Pc) : flat (pcD p) = true := rfl
theorem flatA_pc (c : List Pc) : flatA (c.map pcD) = true := flatA_map flat_pc c
noncomputable def cutL {α : Type} (l : List α) (lo hi : Option Int) : List α := (l.drop (HT.sIx l.length 0 lo)).take (HT.sIx l.length l.length hi - HT.sIx l.length 0 lo)
theorem cutD_map {α : Type} (f : α → PyData) (l : List α) (lo hi : Option Int) : cutD (l.map f) lo hi = (cutL l lo hi).map f := by
  unfold cutD cutL
  rw [List.length_map, List.map_take, List.map_drop]
theorem cutL_len {α : Type} (l : List α) (lo hi : Option Int) : (cutL l lo hi).length ≤ l.length := by
  unfold cutL
  rw [List.length_take, List.length_drop]
  omega
theorem cutL_most {α : Type} (l : List α) {m : Int} (h : 0 ≤ m) : ((cutL l none (some m)).length : Int) ≤ m := by
  unfold cutL
  have e : m = ((m.toNat : Nat) : Int) := by omega
  have z : HT.sIx l.length l.length (some m) ≤ m.toNat := by
    rw [e, HT.sIx_nat, Int.toNat_natCast]
    exact Nat.min_le_left _ _
  rw [List.length_take, List.length_drop]
  omega
theorem cutL_mem {α : Type} {l : List α} {lo hi : Option Int} {x : α} (h : x ∈ cutL l lo hi) : x ∈ l := List.mem_of_mem_drop (List.mem_of_mem_take h)
theorem rep_map {α β : Type} (f : α → β) (k : Nat) (l : List α) : (List.replicate k (l.map f)).flatten = ((List.replicate k l).flatten).map f := by
  induction k with
  | zero => rfl
  | succ k ih => rw [List.replicate_succ, List.replicate_succ, List.flatten_cons, List.flatten_cons, List.map_append, ih]
theorem rngD_succ (lo : Int) (n : Nat) : rngD lo (n + 1) = .int lo :: rngD (lo + 1) n := by
  unfold rngD
  rw [List.range_succ_eq_map, List.map_cons, List.map_map]
  simp only [Int.natCast_zero, Int.add_zero]
  congr 1
  refine List.map_congr_left fun k _ => ?_
  show PyData.int (lo + ((k + 1 : Nat) : Int)) = PyData.int (lo + 1 + (k : Int))
  congr 1
  omega
end PL
namespace L2
open PySem PySem.Spec PyProof.Rows
noncomputable def Its (x : Str) : It := ⟨fun i _ => i < x.cps.toList.length, fun i H v H' => H' = H ∧ ∃ c, x.cps.toList[i]? = some c ∧ v = .str ⟨#[c]⟩, fun i _ => i = x.cps.toList.length⟩
theorem turn_str {P : Program} {w : World} {K : PySem.W.Frag} {tg : Expr} {it : Addr} {T : String} {x : Str} {t : Tok} (hT : T = "str_ascii_iterator" ∨ T = "str_iterator") : Turn P w K tg (Its x) [it] it (fun i h => h.IsStrIter it T x t i) where
  mem := by simp
  obj := fun i h st b hb => by
    have e : b = it := by simpa using hb
    subst e
    obtain ⟨o, e, c, d⟩ := st
    exact ⟨o, e, fun v z => by rw [d] at z; cases z⟩
  keep := fun i h h' st k => let ⟨o, ho, r⟩ := st; ⟨o, k it (by simp) o ho, r⟩
  item := by
    intro X hP hw hK hc i pins s σ H E I hf st hg
    subst hP hw hK
    obtain ⟨f0, f1, f2, f3, f4, f5⟩ := hf it (by simp)
    have hi : i < x.cps.toList.length := hg
    have hx : x.cps[i]? = some (x.cps.toList[i]'hi) := by simp at hi; simp [hi]
    have fin : ∀ (h' : Heap), h'.IsStrIter it T x t (i + 1) → Heap.SameBut it s.heap h' → ∃ u, some (Value.str ⟨#[x.cps.toList[i]'hi]⟩ s.toks) = some u ∧
        wpAny (model X.prog X.w) X.A (letOwnedTupleGo tg (.ref it) u) (fun _ s2 => ∃ v H', Inv X pins σ H' s2 ∧ RelV v u ∧ (Its x).yld i H v H' ∧ s2.heap.IsStrIter it T x t (i + 1) ∧ ∀ b ∈ [it], H' b = none) E { s with heap := h', toks := s.toks + 1 } := fun h' st' sb => by
      have I1 : Inv X pins σ H { s with heap := h', toks := s.toks + 1 } := I.turned (t' := s.toks + 1) (fun b o hb e => (sb.2 b hb).trans e) f0 f1 f3 f4 f5
      obtain ⟨o, e, c, d⟩ := id st'
      exact ⟨_, rfl, go_of (s := { s with heap := h', toks := s.toks + 1 }) e c d (by rcases hT with rfl | rfl <;> decide) ⟨.str ⟨#[x.cps.toList[i]'hi]⟩, H, I1, ⟨_, rfl⟩, ⟨rfl, _, List.getElem?_eq_getElem hi, rfl⟩, st', fun b hb => (hf b hb).1⟩⟩
    rcases hT with rfl | rfl
    · exact wpAny_pyNext_ascii_item st hx fun h' st' sb => fin h' st' sb
    · exact wpAny_pyNext_wide_item st hx fun h' st' sb => fin h' st' sb
  done := by
    intro X hP hw hK hc i pins s σ H E I hf st hg
    subst hP hw hK
    obtain ⟨f0, f1, f2, f3, f4, f5⟩ := hf it (by simp)
    have hi : i = x.cps.toList.length := hg
    have hx : x.cps[i]? = none := by simp at hi; simp [hi]
    rcases hT with rfl | rfl
    · exact wpAny_pyNext_ascii_end (I.ok.hd hc) st hx fun h' eb => ⟨rfl, I.turned (t' := s.toks) (fun b o hb e => eb b o hb e) f0 f1 f3 f4 f5⟩
    · exact wpAny_pyNext_wide_end (I.ok.hd hc) st hx fun h' eb => ⟨rfl, I.turned (t' := s.toks) (fun b o hb e => eb b o hb e) f0 f1 f3 f4 f5⟩
  self := fun _ _ _ _ _ st h => by
    rcases hT with rfl | rfl
    · exact wpAny_pyIter_striter_ascii st h
    · exact wpAny_pyIter_striter_wide st h
noncomputable def iStr (tl : TE) : TI := fun σ H R => tl σ H fun v H1 => ∃ x, v = .str x ∧ R (Its x) H1
theorem pi_str {X : Cx} {tg l : Expr} {tl : TE} (hl : PE X l tl) : PI X tg l (iStr tl) := by
  intro pins s σ H R I h
  refine thn (hl pins s σ H _ I h) fun v s1 ⟨y, H1, I1, r1, q1⟩ => ?_
  obtain ⟨x, e, q⟩ := q1
  subst e
  obtain ⟨t, rfl⟩ := r1
  refine wpAny_pyIter_strU ?_
  refine ⟨s1.heap.objs.size, [s1.heap.objs.size], fun i h => h.IsStrIter s1.heap.objs.size (strIterType x) x t i, _, H1, rfl, I1.kept (t' := s1.toks) fun b o e => Heap.get?_push_of_some _ e, turn_str (t := t) ?_, ⟨_, Heap.get?_push_size _ rfl, rfl, rfl⟩, fun b hb => ?_, q⟩
  · unfold strIterType
    split
    · exact .inl rfl
    · exact .inr rfl
  · have e : b = s1.heap.objs.size := by simpa using hb
    subst e
    exact I1.fpOk (Nat.le_refl _) (I1.hok.fresh (Nat.le_refl _))
theorem PI.or {X : Cx} {tg l : Expr} {a b : TI} (h1 : PI X tg l a) (h2 : PI X tg l b) : PI X tg l (fun σ H R => a σ H R ∨ b σ H R) := by
  intro pins s σ H R I h
  rcases h with h | h
  · exact h1 pins s σ H R I h
  · exact h2 pins s σ H R I h
end L2
namespace PL
open PySem L2 Nh
noncomputable def signsD (x : Str) : List PyData := x.cps.toList.map fun c => .str ⟨#[c]⟩
noncomputable def iAny (f : PEv) : PDv := fun E => (f E).bind fun a => (frz a.2 a.1).bind fun b => match b.1 with
  | .list ds => some (ds, b.2)
  | .tuple ds => some (ds, b.2)
  | .str x => some (signsD x, b.2)
  | _ => none
section
variable {X : Cx} {K : PySem.W.Frag} {B : Hp}
theorem itOk_str {x : Str} : ItOk K B (Its x) (signsD x) := fun {B' F A σ H E xs Xs} i sB fr => by
  refine ⟨fun d ed => ?_, fun e => by show i = x.cps.toList.length; rw [e]; simp [signsD]⟩
  unfold signsD at ed
  rw [List.getElem?_map] at ed
  obtain ⟨c, ec, rfl⟩ := Option.map_eq_some_iff.mp ed
  refine ⟨(List.getElem?_eq_some_iff.mp ec).1, fun z H2 ⟨e1, c', e2, e3⟩ => ?_⟩
  rw [ec] at e2; cases e2
  subst e1 e3
  exact ⟨F, A, fr.push ⟨rfl, _, rfl, .str _⟩⟩
theorem itOk_tup {a : Addr} {vs : List V} {ds : List PyData} (h : SqT K B a vs) (r : RpA K B vs ds) : ItOk K B (Itt K a) ds := fun {B' F A σ H E xs Xs} i sB fr => by
  have hH := fr.fh.tup (fr.bf.tup (sB.tup h))
  refine ⟨fun d ed => ?_, fun e => ⟨vs, hH, by rw [e, r.len]; exact Nat.le_refl _⟩⟩
  obtain ⟨v, ev, rv⟩ := r.get ed
  refine ⟨⟨vs, v, hH, ev⟩, fun x H2 ⟨e2, y⟩ => ?_⟩
  subst e2
  have := y vs hH
  rw [ev] at this
  cases this
  exact ⟨F, A, fr.push ⟨rfl, _, rfl, rv.same (sB.trans fr.bf)⟩⟩
theorem xi_any {tg e : Expr} {m : Bool} {f : PEv} (he : EX X e m f) : IX X tg e m (iAny f) := pi_imp (PI.or (pi_list he) (PI.or (pi_tup he) (pi_str he))) fun σ H R z => by
  obtain ⟨B, E, xs, Xs, ds, E', fr, cl, e, q⟩ := z
  obtain ⟨⟨s, E1⟩, e1, e⟩ := Option.bind_eq_some_iff.mp e
  obtain ⟨⟨d, E2⟩, e2, e⟩ := Option.bind_eq_some_iff.mp e
  have key : ∀ (v : V) (H1 : Hp), Frm X.K B σ H1 E1 (v :: xs) (s :: Xs) → ∃ F2 A2 A3, Rp X.K F2 v d ∧ Same B F2 ∧ FrF X.K F2 F2 A3 σ H1 E2 xs Xs ∧ FrF X.K B F2 A2 σ H1 E2 (v :: xs) (.sh d :: Xs) := fun v H1 ⟨F, A, fr1⟩ => by
    obtain ⟨F2, A2, fr2⟩ := fr1.frz0 e2
    obtain ⟨v', A1, ev, rfl, w, ew, r⟩ := fr2.ext (k := 0) rfl
    cases ev; cases ew
    obtain ⟨A3, fr3⟩ := fr2.pop
    exact ⟨F2, A2, A3, r, fr2.bf, fr3.raise, fr2⟩
  simp only at e
  split at e
  · cases e
    refine .inl ⟨B, E, xs, Xs, s, E1, fr, cl, e1, fun v H1 fr1 => ?_⟩
    obtain ⟨F2, A2, A3, r, sb, fr3, fr2⟩ := key v H1 fr1
    cases r with
    | lst h1 h2 => exact ⟨_, rfl, ⟨_, fr2.fh.seq h1⟩, q F2 _ _ sb ⟨F2, A3, fr3⟩ (itOk_list h1 h2)⟩
  · cases e
    refine .inr (.inl ⟨B, E, xs, Xs, s, E1, fr, cl, e1, fun v H1 fr1 => ?_⟩)
    obtain ⟨F2, A2, A3, r, sb, fr3, fr2⟩ := key v H1 fr1
    cases r with
    | tup h1 h2 => exact ⟨_, rfl, ⟨_, fr2.fh.tup h1⟩, q F2 _ _ sb ⟨F2, A3, fr3⟩ (itOk_tup h1 h2)⟩
  · cases e
    refine .inr (.inr ⟨B, E, xs, Xs, s, E1, fr, cl, e1, fun v H1 fr1 => ?_⟩)
    obtain ⟨F2, A2, A3, r, sb, fr3, fr2⟩ := key v H1 fr1
    cases r
    exact ⟨_, rfl, q F2 _ _ sb ⟨F2, A3, fr3⟩ itOk_str⟩
  · cases e
end
end PL
namespace PL
open PySem L2 Nh
inductive Cm where
  | lt | le | gt | ge
noncomputable def Cm.op : Cm → CmpOp
  | .lt => .Lt
  | .le => .LtE
  | .gt => .Gt
  | .ge => .GtE
noncomputable def Cm.i : Cm → Int → Int → Bool
  | .lt, i, j => decide (i < j)
  | .le, i, j => decide (i ≤ j)
  | .gt, i, j => decide (j < i)
  | .ge, i, j => decide (j ≤ i)
noncomputable def Cm.s : Cm → List Nat → List Nat → Bool
  | .lt, i, j => decide (i < j)
  | .le, i, j => !decide (j < i)
  | .gt, i, j => decide (j < i)
  | .ge, i, j => !decide (i < j)
noncomputable def dCmp (c : Cm) : PyData → PyData → Option PyData
  | .int i, .int j => some (.bool (c.i i j))
  | .str x, .str y => some (.bool (c.s x.cps.toList y.cps.toList))
  | _, _ => none
noncomputable def rCm (c : Cm) : R2 := fun x y H Q => (∃ i j, x = .int i ∧ y = .int j ∧ Q (.bl (c.i i j)) H) ∨ (∃ i j, x = .str i ∧ y = .str j ∧ Q (.bl (c.s i.cps.toList j.cps.toList)) H)
section
variable {X : Cx} {a b c : Expr} {m1 m2 m3 : Bool} {f g h : PEv} {pos : Pos} {K : PySem.W.Frag}
theorem op_cm (c : Cm) : OpR X (compareOp c.op) (rCm c) := by
  cases c with
  | lt => exact OpR.or op_lt op_lt_str
  | le => exact OpR.or op_le (fun pins s σ H x y v u Q I rx ry h => by
      obtain ⟨i, j, rfl, rfl, q⟩ := h
      obtain ⟨t, rfl⟩ := rx
      obtain ⟨t', rfl⟩ := ry
      exact PySem.P.le_str (fin_bl I q rfl))
  | gt => exact OpR.or op_gt (fun pins s σ H x y v u Q I rx ry h => by
      obtain ⟨i, j, rfl, rfl, q⟩ := h
      obtain ⟨t, rfl⟩ := rx
      obtain ⟨t', rfl⟩ := ry
      exact PySem.P.gt_str (fin_bl I q rfl))
  | ge => exact OpR.or op_ge (fun pins s σ H x y v u Q I rx ry h => by
      obtain ⟨i, j, rfl, rfl, q⟩ := h
      obtain ⟨t, rfl⟩ := rx
      obtain ⟨t', rfl⟩ := ry
      exact PySem.P.ge_str (fin_bl I q rfl))
theorem cm_ok (c : Cm) : ScOk K (rCm c) (dCmp c) := fun d1 d2 d v1 v2 H Q e r1 r2 => by
  unfold dCmp at e
  split at e
  · cases e; cases r1; cases r2
    exact ⟨_, rfl, fun q => .inl ⟨_, _, rfl, rfl, q⟩⟩
  · cases e; cases r1; cases r2
    exact ⟨_, rfl, fun q => .inr ⟨_, _, rfl, rfl, q⟩⟩
  · cases e
theorem nomark_cm (c : Cm) (b : Expr) : behindInMarks c.op b = false := by cases c <;> exact nomark _
theorem xe_cm (c : Cm) (ha : EX X a m1 f) (hb : EX X b m2 g) : EX X (.Compare a [c.op] [b] pos) (m1 || m2) (pBin (sc2 (dCmp c)) m2 f g) := xe_cmp (op_cm c) (sc2_ok (cm_ok c)) ha hb (nomark_cm c b)
theorem xt_cm (c : Cm) (ha : EX X a m1 f) (hb : EX X b m2 g) : TX X (.Compare a [c.op] [b] pos) (m1 || m2) (isB (pBin (sc2 (dCmp c)) m2 f g)) := xt_cmp (op_cm c) (sc2_ok (cm_ok c)) ha hb (nomark_cm c b)
theorem xe_ch (c1 c2 : Cm) (ha : EX X a m1 f) (hb : EX X b m2 g) (hc : EX X c m3 h) (hm : lastMarks [c1.op, c2.op] [b, c] = false := by with_unfolding_all rfl) : EX X (.Compare a [c1.op, c2.op] [b, c] pos) (m1 || (m2 || m3)) (pChain (dCmp c1) (dCmp c2) m2 m3 f g h) := xe_chain (op_cm c1) (op_cm c2) (cm_ok c1) (cm_ok c2) ha hb hc hm
theorem xt_ch (c1 c2 : Cm) (ha : EX X a m1 f) (hb : EX X b m2 g) (hc : EX X c m3 h) (hm : lastMarks [c1.op, c2.op] [b, c] = false := by with_unfolding_all rfl) : TX X (.Compare a [c1.op, c2.op] [b, c] pos) (m1 || (m2 || m3)) (isB (pChain (dCmp c1) (dCmp c2) m2 m3 f g h)) := xt_chain (op_cm c1) (op_cm c2) (cm_ok c1) (cm_ok c2) ha hb hc hm
noncomputable def strsOf : List PyData → Option (List Str)
  | [] => some []
  | .str x :: ds => (strsOf ds).map fun xs => x :: xs
  | _ :: _ => none
noncomputable def intsOf : List PyData → Option (List Int)
  | [] => some []
  | .int x :: ds => (intsOf ds).map fun xs => x :: xs
  | _ :: _ => none
theorem strsOf_eq : ∀ {ds : List PyData} {xs : List Str}, strsOf ds = some xs → ds = xs.map .str
  | [], xs, h => by cases h; rfl
  | d :: ds, xs, h => by
    cases d with
    | str x =>
      obtain ⟨ys, e, rfl⟩ := Option.map_eq_some_iff.mp h
      rw [strsOf_eq e]; rfl
    | _ => cases h
theorem intsOf_eq : ∀ {ds : List PyData} {xs : List Int}, intsOf ds = some xs → ds = xs.map .int
  | [], xs, h => by cases h; rfl
  | d :: ds, xs, h => by
    cases d with
    | int x =>
      obtain ⟨ys, e, rfl⟩ := Option.map_eq_some_iff.mp h
      rw [intsOf_eq e]; rfl
    | _ => cases h
theorem rpA_strs {H : Hp} : ∀ {vs : List V} {xs : List Str}, RpA K H vs (xs.map .str) → vs = xs.map .str
  | [], [], _ => rfl
  | v :: vs, x :: xs, .cons h r => by cases h; rw [rpA_strs r]; rfl
theorem rpA_ints {H : Hp} : ∀ {vs : List V} {xs : List Int}, RpA K H vs (xs.map .int) → vs = xs.map .int
  | [], [], _ => rfl
  | v :: vs, x :: xs, .cons h r => by cases h; rw [rpA_ints r]; rfl
noncomputable def dIn : PyData → PyData → Option Bool
  | .str x, .str y => some (!(Builtin.Str.occurrences y x 0 y.length 1).isEmpty)
  | .str x, .list ds => (strsOf ds).map fun xs => xs.contains x
  | .str x, .tuple ds => (strsOf ds).map fun xs => xs.contains x
  | .int x, .list ds => (intsOf ds).map fun xs => xs.contains x
  | .int x, .tuple ds => (intsOf ds).map fun xs => xs.contains x
  | _, _ => none
noncomputable def rInU (K : PySem.W.Frag) (neg : Bool) : R2 := fun x y H Q => (∃ i j, x = .str i ∧ y = .str j ∧ Q (.bl (if neg then !(!(Builtin.Str.occurrences j i 0 j.length 1).isEmpty) else !(Builtin.Str.occurrences j i 0 j.length 1).isEmpty)) H) ∨ rIn K neg x y H Q
theorem inV_strs (x : Str) (xs : List Str) : inV (.str x) (xs.map .str) = xs.contains x := by
  induction xs with
  | nil => rfl
  | cons y xs ih =>
    rw [List.contains_cons, ← ih]
    show (eqV (.str y) (.str x) || inV (.str x) (xs.map .str)) = _
    congr 1
    show (y == x) = (x == y)
    exact BEq.comm
theorem inV_ints (x : Int) (xs : List Int) : inV (.int x) (xs.map .int) = xs.contains x := by
  induction xs with
  | nil => rfl
  | cons y xs ih =>
    rw [List.contains_cons, ← ih]
    show (eqV (.int y) (.int x) || inV (.int x) (xs.map .int)) = _
    congr 1
    show (y == x) = (x == y)
    exact BEq.comm
theorem dIn_ok (neg : Bool) : ScOk K (rInU K neg) (fun d1 d2 => (dIn d1 d2).map fun b => .bool (if neg then !b else b)) := fun d1 d2 d v1 v2 H Q e r1 r2 => by
  obtain ⟨b, e', rfl⟩ := Option.map_eq_some_iff.mp e
  clear e
  have e := e'
  clear e'
  refine ⟨_, rfl, fun q => ?_⟩
  have hs : ∀ xs : List Str, (xs.map V.str).all flatV = true := fun xs => by simp [List.all_eq_true, flatV]
  have hi : ∀ xs : List Int, (xs.map V.int).all flatV = true := fun xs => by simp [List.all_eq_true, flatV]
  unfold dIn at e
  split at e
  · cases e; cases r1; cases r2
    exact .inl ⟨_, _, rfl, rfl, q⟩
  · obtain ⟨xs, ex, rfl⟩ := Option.map_eq_some_iff.mp e
    cases r1
    cases r2 with
    | lst h1 h2 =>
      rw [strsOf_eq ex] at h2
      rw [rpA_strs h2] at h1
      exact .inr ⟨_, _, rfl, .inl h1, rfl, hs _, by rw [inV_strs]; exact q⟩
  · obtain ⟨xs, ex, rfl⟩ := Option.map_eq_some_iff.mp e
    cases r1
    cases r2 with
    | tup h1 h2 =>
      rw [strsOf_eq ex] at h2
      rw [rpA_strs h2] at h1
      exact .inr ⟨_, _, rfl, .inr h1, rfl, hs _, by rw [inV_strs]; exact q⟩
  · obtain ⟨xs, ex, rfl⟩ := Option.map_eq_some_iff.mp e
    cases r1
    cases r2 with
    | lst h1 h2 =>
      rw [intsOf_eq ex] at h2
      rw [rpA_ints h2] at h1
      exact .inr ⟨_, _, rfl, .inl h1, rfl, hi _, by rw [inV_ints]; exact q⟩
  · obtain ⟨xs, ex, rfl⟩ := Option.map_eq_some_iff.mp e
    cases r1
    cases r2 with
    | tup h1 h2 =>
      rw [intsOf_eq ex] at h2
      rw [rpA_ints h2] at h1
      exact .inr ⟨_, _, rfl, .inr h1, rfl, hi _, by rw [inV_ints]; exact q⟩
  · cases e
noncomputable def pIn (neg : Bool) : P2 := sc2 fun d1 d2 => (dIn d1 d2).map fun b => .bool (if neg then !b else b)
theorem op_inU : OpR X (compareOp .In) (rInU X.K false) := OpR.or op_in_str op_in_seq
theorem xt_in (ha : EX X a m1 f) (hb : EX X b m2 g) (hm : behindInMarks .In b = false := by with_unfolding_all rfl) : TX X (.Compare a [.In] [b] pos) (m1 || m2) (isB (pBin (pIn false) m2 f g)) := xt_cmp op_inU (sc2_ok (dIn_ok false)) ha hb hm
end
noncomputable def dInt : List PyData → Option PyData
  | [.int i] => some (.int i)
  | [.bool b] => some (.int (if b then 1 else 0))
  | _ => none
section
variable {X : Cx} {e o : Expr} {m1 m2 : Bool} {g : PAv} {f h : PEv} {p pos apos cpos : Pos} {K : PySem.W.Frag}
theorem xe_int1 (hg : Gl X "int") (hm : X.mg "int" = none) (ha : AX X [e] m1 g) (he : starEach [e] X.env = [(false, eval e X.env)] := by rfl) : EX X (.Call (.Name "int" p) [e] [] pos) m1 (pCaS dInt g) :=
  pe_imp (pe_callTy call_int1 hg hm PyProof.Rows.boot_int ha (by decide) (by decide) he rfl) fun _ _ _ z => rd_caS (fun ds d vs H Q e r => by
    unfold dInt at e
    split at e
    · cases e
      obtain ⟨v, rfl, r'⟩ := r.one
      cases r'
      exact ⟨_, rfl, fun q => .inl ⟨_, rfl, q⟩⟩
    · cases e
      obtain ⟨v, rfl, r'⟩ := r.one
      cases r'
      exact ⟨_, rfl, fun q => .inr ⟨_, rfl, q⟩⟩
    · cases e) z
end
theorem xs_never {X : Cx} {st : Stmt} : SX X st (fun _ => none) := ps_imp ps_never fun D σ H z => by
  obtain ⟨B, E, xs, Xs, E', fl, fr, cl, e, q⟩ := z
  cases e
noncomputable def pNever : PSv := fun _ => none
end PL
namespace PL
open PySem L2 Nh
theorem sl_str {X : Cx} : SlR X (fun x lo hi H Q => ∃ z, x = .str z ∧ z.length ≤ sizeLine ∧ Q (.str (Txt.slice z lo hi)) H) := by
  intro pins s σ H x v vl vu lo hi sl Q I rx hs pl pu h
  obtain ⟨z, rfl, hz, q⟩ := h
  obtain ⟨t, rfl⟩ := rx
  cases pl with
  | none =>
    cases pu with
    | none => exact ⟨"str", _, PySem.F.slot_str_getitem.lookup, typeIs_str _ _ _, wpAny_getItem_str_slice (l := none) (u := none) (st := none) hs rfl (post_val_or_str ⟨Nat.le_trans (Txt.slice_le z _ _) hz, fun t' k => ⟨.str _, H, I.tok _, ⟨_, rfl⟩, q⟩⟩)⟩
    | int j uj => exact ⟨"str", _, PySem.F.slot_str_getitem.lookup, typeIs_str _ _ _, wpAny_getItem_str_slice (l := none) (u := some (j, uj)) (st := none) hs rfl (post_val_or_str ⟨Nat.le_trans (Txt.slice_le z _ _) hz, fun t' k => ⟨.str _, H, I.tok _, ⟨_, rfl⟩, q⟩⟩)⟩
  | int i ui =>
    cases pu with
    | none => exact ⟨"str", _, PySem.F.slot_str_getitem.lookup, typeIs_str _ _ _, wpAny_getItem_str_slice (l := some (i, ui)) (u := none) (st := none) hs rfl (post_val_or_str ⟨Nat.le_trans (Txt.slice_le z _ _) hz, fun t' k => ⟨.str _, H, I.tok _, ⟨_, rfl⟩, q⟩⟩)⟩
    | int j uj => exact ⟨"str", _, PySem.F.slot_str_getitem.lookup, typeIs_str _ _ _, wpAny_getItem_str_slice (l := some (i, ui)) (u := some (j, uj)) (st := none) hs rfl (post_val_or_str ⟨Nat.le_trans (Txt.slice_le z _ _) hz, fun t' k => ⟨.str _, H, I.tok _, ⟨_, rfl⟩, q⟩⟩)⟩
noncomputable def pCut (m2 : Bool) (f : PEv) (lo hi : POv) : PEv := fun E => (f E).bind fun a => if m2 && a.1.isBr then none else (lo a.2).bind fun b => (hi b.2).bind fun c => match look c.2 a.1 with
  | some (.list ds) => if !hot c.2 a.1 || flatA (cutD ds b.1 c.1) then some (.ow (cutD ds b.1 c.1), c.2) else none
  | some (.str z) => if z.length ≤ 1000000 then some (.sh (.str (Txt.slice z b.1 c.1)), c.2) else none
  | _ => none
theorem xe_cut {X : Cx} {e : Expr} {lo hi : Option Expr} {m1 m2 m3 : Bool} {f : PEv} {g h : POv} {pos p2 : Pos} (he : EX X e m1 f) (hl : OX X lo m2 g) (hh : OX X hi m3 h) : EX X (.Subscript e (.Slice lo hi none p2) pos) (m1 || (m2 || m3)) (pCut (m2 || m3) f g h) := by
  refine pe_imp (pe_slice (SlR.or sl_list sl_str) he hl hh) fun σ H Q z => ?_
  obtain ⟨B, E, xs, Xs, res, E', fr, cl, e, q⟩ := z
  obtain ⟨⟨s, E1⟩, e1, e⟩ := Option.bind_eq_some_iff.mp e
  by_cases hb : ((m2 || m3) && s.isBr) = true
  · rw [if_pos hb] at e; cases e
  rw [if_neg hb] at e
  have n1 : (m2 || m3) = true → s.isBr = false := fun z => by
    cases hs : s.isBr with
    | false => rfl
    | true => exact absurd (by rw [z, hs]; rfl) hb
  obtain ⟨⟨l, E2⟩, e2, e⟩ := Option.bind_eq_some_iff.mp e
  obtain ⟨⟨u, E3⟩, e3, e⟩ := Option.bind_eq_some_iff.mp e
  refine ⟨B, E, xs, Xs, s, E1, fr, fun z => cl (by simp [z]), e1, fun v1 H1 fr1 => ?_⟩
  refine ⟨B, E1, v1 :: xs, s :: Xs, l, E2, fr1, fun z => Calm.cons (cl (by simp [z])) (n1 (by simp [z])), e2, fun H2 fr2 => ?_⟩
  refine ⟨B, E2, v1 :: xs, s :: Xs, u, E3, fr2, fun z => Calm.cons (cl (by simp [z])) (n1 (by simp [z])), e3, fun H3 ⟨F, A, fr3⟩ => ?_⟩
  simp only at e
  split at e
  · rename_i ds ld
    split at e
    · rename_i hc
      cases e
      obtain ⟨v, ev, r, f0⟩ := fr3.look (k := 0) rfl ld
      cases ev
      obtain ⟨A', fr4⟩ := fr3.pop
      cases hh : hot E' s with
      | false =>
        obtain ⟨a, vs, rfl, h1, h2⟩ := f0 hh
        exact .inl ⟨a, vs, rfl, h1, fun p hp => q _ _ ⟨F, _, fr4.newl (h2.cut l u) hp⟩⟩
      | true =>
        rw [hh] at hc
        cases r with
        | lst h1 h2 => exact .inl ⟨_, _, rfl, h1, fun p hp => q _ _ ⟨F, _, fr4.newl (fr3.coldA (h2.cut l u) (by simpa using hc)) hp⟩⟩
    · cases e
  · rename_i z ld
    split at e
    · rename_i hc
      cases e
      have r := (fr3.look0 ld).1
      cases r
      obtain ⟨A', fr4⟩ := fr3.pop
      exact .inr ⟨_, rfl, smallE hc, q _ _ ⟨F, A', fr4.push ⟨rfl, _, rfl, .str _⟩⟩⟩
    · cases e
  · cases e
noncomputable def pExtend (i : Nat) (f : PEv) : PEv := fun E => match E[i]? with
  | some (.ow _) => (f E).bind fun a => match a.1, a.2[i]? with
    | .ow es, some (.ow ds) => if ds.length + es.length ≤ 1000000 then some (.sh .none, a.2.set i (.ow (ds ++ es))) else none
    | _, _ => none
  | _ => none
noncomputable def pReverse (i : Nat) : PEv := fun E => match E[i]? with
  | some (.ow ds) => some (.sh .none, E.set i (.ow ds.reverse))
  | _ => none
section
variable {X : Cx} {e : Expr} {m1 : Bool} {f : PEv} {x : Str} {p apos cpos : Pos}
theorem xe_extend (i : Nat) (he : EX X e m1 f) (hN : X.N[i]? = some x := by rfl) (hv : Vis X.env.scope x := by first | exact Or.inl rfl | exact Or.inr (Or.inl rfl) | exact Or.inr (Or.inr rfl)) (hd : (x == ("__debug__" : Str)) = false := by decide) (hcd : (x == ("__classdict__" : Str)) = false := by decide)
    (hs : starEach [e] X.env = [(false, eval e X.env)] := by rfl) (hbase : attributeBase (.Name x p) "extend" X.env (eval (.Name x p) X.env) = eval (.Name x p) X.env := by rfl)
    (hfew : ((backTo cpos (starEach [e] X.env)).all (fun x => !x.1) && (backToKw cpos (keywordEach [] X.env)).all (fun x => x.1.isSome)
      && decide (([e] : List Expr).length + ([] : List Keyword).length + (if ([] : List Keyword).isEmpty then 0 else 1) < 30)) = true := by rfl) (hline : (apos.endLine == cpos.line) = true := by rfl) :
    EX X (.Call (.Attribute (.Name x p) "extend" apos) [e] [] cpos) true (pExtend i f) := by
  refine pe_imp (pe_bm PySem.F.plainAttrs_list PySem.F.slot_list_extend PySem.F.type_list_extend mt_extend (pe_var hN hv hd hcd) (pa_cons he pa_nil hs) hbase hfew hline hs rfl) fun σ H Q z => ?_
  obtain ⟨B, E, xs, Xs, res, E', ⟨F, A, fr⟩, cl, e, q⟩ := z
  unfold pExtend at e
  split at e
  · rename_i ds0 ei
    obtain ⟨⟨s, E1⟩, e1, e⟩ := Option.bind_eq_some_iff.mp e
    simp only at e
    split at e
    · rename_i s1 es ds ei2
      split at e
      · rename_i hc
        cases e
        obtain ⟨o, A1, eo, l, vs, rfl, rfl, hl0, _⟩ := fr.var ei
        refine ⟨_, eo, .inl ⟨rfl, _, SqL.of hl0⟩, B, E, xs, Xs, _, E1, ⟨F, A, fr⟩, fun _ => cl rfl, e1, fun v H1 ⟨F1, A1, fr1⟩ => ?_⟩
        obtain ⟨v', A3, ev, l2, us, el, rfl, hl2, ru⟩ := fr1.ext (k := 0) rfl
        cases ev; cases el
        obtain ⟨A4, fr3⟩ := fr1.pop
        obtain ⟨l', vs', eo', hl', r', put⟩ := fr3.mut ei2 (cl rfl)
        rw [eo] at eo'
        cases eo'
        have n1 := r'.len
        have n2 := ru.len
        have fr4 := put (vs' ++ us) (ds ++ es) (r'.append ru)
        exact ⟨l, l2, vs', us, rfl, rfl, hl', hl2, smallE (by omega), q _ _ ⟨_, _, fr4.push ⟨rfl, _, rfl, .non⟩⟩⟩
      · cases e
    · cases e
  · cases e
theorem xe_reverse (i : Nat) (hN : X.N[i]? = some x := by rfl) (hv : Vis X.env.scope x := by first | exact Or.inl rfl | exact Or.inr (Or.inl rfl) | exact Or.inr (Or.inr rfl)) (hd : (x == ("__debug__" : Str)) = false := by decide) (hcd : (x == ("__classdict__" : Str)) = false := by decide)
    (hbase : attributeBase (.Name x p) "reverse" X.env (eval (.Name x p) X.env) = eval (.Name x p) X.env := by rfl) (hline : (apos.endLine == cpos.line) = true := by rfl) :
    EX X (.Call (.Attribute (.Name x p) "reverse" apos) [] [] cpos) true (pReverse i) := by
  refine pe_imp (pe_bm0 PySem.F.plainAttrs_list PySem.F.slot_list_reverse PySem.F.type_list_reverse mt_reverse (pe_var hN hv hd hcd) hbase hline) fun σ H Q z => ?_
  obtain ⟨B, E, xs, Xs, res, E', ⟨F, A, fr⟩, cl, e, q⟩ := z
  unfold pReverse at e
  split at e
  · rename_i ds ei
    cases e
    obtain ⟨l, vs, eo, hl, r, put⟩ := fr.mut ei (cl rfl)
    have fr2 := put vs.reverse ds.reverse r.rev
    exact ⟨_, eo, .inl ⟨rfl, _, SqL.of hl⟩, l, vs, rfl, rfl, hl, q _ _ ⟨_, _, fr2.push ⟨rfl, _, rfl, .non⟩⟩⟩
  · cases e
end
noncomputable def closL (scope : Scope) (env : Env) : List (Str × Addr) := ((scope.names.filter fun p => p.2 == .free).map fun p => (p.1, (env.cells.lookup p.1).getD 0)).reverse
theorem compOpen {X : Cx} {scope : Scope} {N : List Str} {js : List (Option Nat)} (clos : closureFor scope X.env = pure (closL scope X.env) := by rfl) (nocell : ∀ y ∈ scope.names, y.2 ≠ .cell := by decide +kernel) (kind : scope.kind = .function := by rfl)
    (names : ∀ y ∈ scope.names, y.2 = .local → scope.names.lookup y.1 = some .local := by decide +kernel) (same : (scope.names.filter fun p => p.2 == .free).all (fun p => (X.env.cells.lookup p.1).isSome) = true := by rfl)
    (has : (relabel scope X.env).names.all (fun y => !(y.2 == .cell || y.2 == .free) || ((closL scope X.env).lookup y.1).isSome) = true := by rfl) (len : js.length = N.length := by rfl)
    (fr : (js.zip N).all (fun p => match p.1 with | none => true | some j => X.N[j]? == some p.2 && ((relabel scope X.env).names.lookup p.2 == some .cell || (relabel scope X.env).names.lookup p.2 == some .free) && (X.env.kindOf p.2 == some .cell || X.env.kindOf p.2 == some .free)) = true := by rfl) :
    CompOk X scope (relabel scope X.env) (closL scope X.env) N js where
  clos := clos
  rel := rfl
  nocell := nocell
  kind := kind
  names := names
  same := fun x c e => by
    have hm := PySem.mem_of_lookup e
    unfold closL at hm
    obtain ⟨p, hp, ep⟩ := List.mem_map.mp (List.mem_reverse.mp hm)
    have := List.all_eq_true.mp same _ hp
    obtain ⟨c', ec⟩ := Option.isSome_iff_exists.mp this
    injection ep with e1 e2
    subst e1
    rw [ec] at e2 ⊢
    exact congrArg some e2
  has := fun x h => by
    have key : ∀ k, (relabel scope X.env).names.lookup x = some k → (k == NameKind.cell || k == NameKind.free) = true → ∃ c, (closL scope X.env).lookup x = some c := fun k h hk => by
      have := List.all_eq_true.mp has _ (PySem.mem_of_lookup h)
      simp only [hk, Bool.not_true, Bool.false_or] at this
      exact Option.isSome_iff_exists.mp this
    rcases h with h | h
    · exact key _ h rfl
    · exact key _ h rfl
  len := len
  from_ := fun i j h => by
    have hi : i < js.length := (List.getElem?_eq_some_iff.mp h).1
    obtain ⟨x, ex⟩ : ∃ x, N[i]? = some x := ⟨N[i]'(by omega), List.getElem?_eq_getElem (by omega)⟩
    have hz : (js.zip N)[i]? = some (some j, x) := by rw [List.getElem?_zip_eq_some]; exact ⟨h, ex⟩
    have := List.all_eq_true.mp fr _ (List.mem_of_getElem? hz)
    simp only [Bool.and_eq_true, Bool.or_eq_true, beq_iff_eq] at this
    exact ⟨x, ex, this.1.1, this.1.2, this.2⟩
structure Bn (mg : Str → Option Value) : Prop where
  len : mg "len" = none
  range : mg "range" = none
  abs : mg "abs" = none
  min : mg "min" = none
  max : mg "max" = none
  reversed : mg "reversed" = none
  enumerate : mg "enumerate" = none
  isinstance : mg "isinstance" = none
  list : mg "list" = none
  tuple : mg "tuple" = none
  str : mg "str" = none
  int : mg "int" = none
  bool : mg "bool" = none
  sorted : mg "sorted" = none
  zip : mg "zip" = none
  sum : mg "sum" = none
  any : mg "any" = none
  all : mg "all" = none
  set : mg "set" = none
  dict : mg "dict" = none
theorem bn_mk {K : PySem.W.Frag} {h : Heap} {mg : Str → Option Value} (X : K.In h) (G : h.Ns mainGlobals mg)
    (z1 : PySem.W.nsIn K mainGlobals "len" = some none) (z2 : PySem.W.nsIn K mainGlobals "range" = some none) (z3 : PySem.W.nsIn K mainGlobals "abs" = some none) (z4 : PySem.W.nsIn K mainGlobals "min" = some none) (z5 : PySem.W.nsIn K mainGlobals "max" = some none) (z6 : PySem.W.nsIn K mainGlobals "reversed" = some none) (z7 : PySem.W.nsIn K mainGlobals "enumerate" = some none) (z8 : PySem.W.nsIn K mainGlobals "isinstance" = some none) (z9 : PySem.W.nsIn K mainGlobals "list" = some none) (z10 : PySem.W.nsIn K mainGlobals "tuple" = some none) (z11 : PySem.W.nsIn K mainGlobals "str" = some none) (z12 : PySem.W.nsIn K mainGlobals "int" = some none) (z13 : PySem.W.nsIn K mainGlobals "bool" = some none) (z14 : PySem.W.nsIn K mainGlobals "sorted" = some none) (z15 : PySem.W.nsIn K mainGlobals "zip" = some none) (z16 : PySem.W.nsIn K mainGlobals "sum" = some none) (z17 : PySem.W.nsIn K mainGlobals "any" = some none) (z18 : PySem.W.nsIn K mainGlobals "all" = some none) (z19 : PySem.W.nsIn K mainGlobals "set" = some none) (z20 : PySem.W.nsIn K mainGlobals "dict" = some none) : Bn mg :=
  ⟨PySem.W.mg_none_of X G z1, PySem.W.mg_none_of X G z2, PySem.W.mg_none_of X G z3, PySem.W.mg_none_of X G z4, PySem.W.mg_none_of X G z5, PySem.W.mg_none_of X G z6, PySem.W.mg_none_of X G z7, PySem.W.mg_none_of X G z8, PySem.W.mg_none_of X G z9, PySem.W.mg_none_of X G z10, PySem.W.mg_none_of X G z11, PySem.W.mg_none_of X G z12, PySem.W.mg_none_of X G z13, PySem.W.mg_none_of X G z14, PySem.W.mg_none_of X G z15, PySem.W.mg_none_of X G z16, PySem.W.mg_none_of X G z17, PySem.W.mg_none_of X G z18, PySem.W.mg_none_of X G z19, PySem.W.mg_none_of X G z20⟩
end PL
namespace PL
open PySem L2 Nh
noncomputable abbrev PKv := List Sl → Option (List Sl × Bool)
end PL
namespace PL
open PySem L2 Nh
section
variable {K : PySem.W.Frag} {F H : Hp}
theorem PtsOk.append : ∀ {us : List V} {ts : List Pt} {A : List Addr} {us' : List V} {ts' : List Pt} {A' : List Addr}, PtsOk K F H us ts A → PtsOk K F H us' ts' A' → PtsOk K F H (us ++ us') (ts ++ ts') (A ++ A')
  | [], [], A, _, _, _, h, h' => by rw [show A = [] from h]; exact h'
  | v :: vs, .fl d :: ps, A, _, _, _, h, h' => ⟨h.1, PtsOk.append h.2 h'⟩
  | v :: vs, .ol ds :: ps, A, _, _, _, h, h' => by
    obtain ⟨l, us, A1, rfl, rfl, hl, hr, q⟩ := h
    exact ⟨l, us, _, rfl, rfl, hl, hr, q.append h'⟩
  | [], _ :: _, _, _, _, _, h, _ => False.elim h
  | _ :: _, [], _, _, _, _, h, _ => False.elim h
end
noncomputable abbrev PMv := List Sl → Option (List Pt × List Sl)
end PL
namespace PL
open PySem PySem.Spec L2 Nh PyProof.Rows
noncomputable def okR (i : Int) : Prop := -1000000 ≤ i ∧ i ≤ 1000000
noncomputable instance (i : Int) : Decidable (okR i) := inferInstanceAs (Decidable (_ ∧ _))
end PL
namespace PL
open PySem L2 Nh
noncomputable def boolsOf : List PyData → Option (List Bool)
  | [] => some []
  | .bool b :: ds => (boolsOf ds).map (b :: ·)
  | _ => none
noncomputable def dAll : List PyData → Option PyData
  | [.list ds] => (boolsOf ds).map fun bs => .bool (bs.all id)
  | _ => none
noncomputable def rBools (K : PySem.W.Frag) (f : List Bool → Bool) : List V → Hp → VK → Prop := fun xs H Q => ∃ p bs, xs = [.ref p] ∧ SqL K H p (bs.map V.bl) ∧ Q (.bl (f bs)) H
theorem bools_rp {K : PySem.W.Frag} {H : Hp} : ∀ {vs : List V} {ds : List PyData} {bs : List Bool}, RpA K H vs ds → boolsOf ds = some bs → vs = bs.map V.bl
  | _, _, bs, .nil, e => by cases e; rfl
  | _, _, bs, .cons (d := d) h t, e => by
    cases d <;> simp [boolsOf] at e
    obtain ⟨cs, e, rfl⟩ := e
    cases h
    rw [bools_rp t e]
    rfl
theorem bools_ok {K : PySem.W.Frag} {f : List Bool → Bool} : CaOk K (rBools K f) (fun ds => match ds with
  | [.list ds] => (boolsOf ds).map fun bs => .bool (f bs)
  | _ => none) := fun ds d vs H Q e r => by
  simp only at e
  split at e
  · obtain ⟨bs, eb, rfl⟩ := Option.map_eq_some_iff.mp e
    obtain ⟨v, rfl, r1⟩ := r.one
    cases r1 with
    | lst h1 h2 =>
      have := bools_rp h2 eb
      subst this
      exact ⟨_, rfl, fun q => ⟨_, bs, rfl, h1, q⟩⟩
  · cases e
theorem range_all : ∀ bs : List Bool, (List.range bs.length).all (fun i => bs.getD i false) = bs.all id
  | [] => rfl
  | b :: bs => by
    rw [List.length_cons, List.range_succ_eq_map, List.all_cons, List.all_map, List.all_cons, ← range_all bs]
    rfl
section
variable {X : Cx} {e : Expr} {es : List Expr} {m1 : Bool} {g : PAv} {p pos : Pos}
theorem vals_bools : ∀ {bs : List Bool} {us : List Value}, Vals (bs.map V.bl) us → us = bs.map Value.bool
  | [], _, .nil => rfl
  | b :: bs, _, .cons h t => by cases h; rw [vals_bools t]; rfl
theorem bool_at {bs : List Bool} {i : Nat} {v : Value} (h : (bs.map Value.bool).toArray[i]? = some v) : v = .bool (bs.getD i false) := by
  rw [List.getElem?_toArray, List.getElem?_map] at h
  obtain ⟨b, e, rfl⟩ := Option.map_eq_some_iff.mp h
  rw [List.getD_eq_getElem?_getD, e]
  rfl
theorem call_allL (hc : X.calm = true) : CallR X (.builtin "all") (rBools X.K fun bs => bs.all id) := by
  intro pins s σ H xs us Q I r h
  obtain ⟨a, bs, rfl, hq, q⟩ := h
  cases r with
  | cons r rr =>
    cases rr
    cases r
    obtain ⟨its, rv, pl, hz⟩ := I.list hq
    have := vals_bools rv
    subst this
    obtain ⟨o, n, eo, _⟩ := id pl
    have hlt : a < s.heap.objs.size := Heap.lt_size eo
    refine call_all_walk (wpAny_pyIter_list pl.isList ?_)
    refine ⟨s.heap.objs.size, _, _, _, _, _, fun i => bs.getD i false, rfl, Walks.list (A := X.A.in1) (I.ok.hd hc) s.heap.objs.size a (Nat.ne_of_lt hlt) (bs.map Value.bool).toArray, ?_, ?_, ?_⟩
    · exact ⟨⟨_, Heap.get?_push_size _ rfl, rfl, rfl⟩, pl.isList.at fun o e => Heap.get?_push_of_some _ e⟩
    · intro i v s Q E hv hQ
      rw [bool_at hv]
      exact wpAny_truthy_bool hQ
    · intro h' tk hk
      refine ⟨.bl _, H, I.kept (t' := tk) fun b o e => hk b o (fun z => ?_) (Heap.get?_push_of_some _ e), rfl, ?_⟩
      · have : b = s.heap.objs.size := by simpa using z
        exact Nat.lt_irrefl _ (this ▸ Heap.lt_size e)
      · rw [show ((bs.map Value.bool).toArray).size = bs.length by simp, range_all]
        exact q
theorem xe_all (hc : X.calm = true) (hg : Gl X "all") (hm : X.mg "all" = none) (ha : AX X [e] m1 g) (he : starEach [e] X.env = [(false, eval e X.env)] := by rfl) : EX X (.Call (.Name "all" p) [e] [] pos) m1 (pCaS dAll g) := xe_callS (r := rBools X.K fun bs => bs.all id) bools_ok (call_allL hc) hg hm PyProof.Rows.boot_all ha (by decide) (by decide) he rfl
noncomputable def intsL : List PyData → Option (List Int)
  | [] => some []
  | .int i :: ds => (intsL ds).map (i :: ·)
  | _ => none
noncomputable def dSum : List PyData → Option PyData
  | [.list ds] => (intsL ds).map fun ns => .int ns.sum
  | _ => none
noncomputable def rSum (K : PySem.W.Frag) : List V → Hp → VK → Prop := fun xs H Q => ∃ (p : Addr) (ns : List Int), xs = [.ref p] ∧ SqL K H p (ns.map V.int) ∧ Q (.int ns.sum) H
theorem ints_rp {K : PySem.W.Frag} {H : Hp} : ∀ {vs : List V} {ds : List PyData} {bs : List Int}, RpA K H vs ds → intsL ds = some bs → vs = bs.map V.int
  | _, _, bs, .nil, e => by cases e; rfl
  | _, _, bs, .cons (d := d) h t, e => by
    cases d <;> simp [intsL] at e
    obtain ⟨cs, e, rfl⟩ := e
    cases h
    rw [ints_rp t e]
    rfl
theorem sum_ok {K : PySem.W.Frag} : CaOk K (rSum K) dSum := fun ds d vs H Q e r => by
  unfold dSum at e
  split at e
  · obtain ⟨bs, eb, rfl⟩ := Option.map_eq_some_iff.mp e
    obtain ⟨v, rfl, r1⟩ := r.one
    cases r1 with
    | lst h1 h2 =>
      have := ints_rp h2 eb
      subst this
      exact ⟨_, rfl, fun q => ⟨_, bs, rfl, h1, q⟩⟩
  · cases e
theorem vals_ints : ∀ {ns : List Int} {us : List Value}, Vals (ns.map V.int) us → us.length = ns.length ∧ ∀ (i : Nat) (v : Value), us[i]? = some v → ∃ t, v = Value.int (ns.getD i 0) t
  | [], _, .nil => ⟨rfl, fun i v h => by simp at h⟩
  | n :: ns, _, .cons h t => by
    obtain ⟨tk, rfl⟩ := h
    obtain ⟨h1, h2⟩ := vals_ints t
    refine ⟨by simp [h1], fun i v h => ?_⟩
    cases i with
    | zero => simp at h; subst h; exact ⟨tk, rfl⟩
    | succ i => simpa using h2 i v (by simpa using h)
theorem preSum_take (ns : List Int) : ∀ k, k ≤ ns.length → preSum (fun i => ns.getD i 0) k = (ns.take k).sum
  | 0, _ => by simp [preSum]
  | k + 1, h => by
    have hk : k < ns.length := by omega
    rw [preSum, preSum_take ns k (by omega), List.take_add_one, List.getElem?_eq_getElem hk, List.sum_append]
    simp [List.getD_eq_getElem?_getD, hk]
theorem call_sumL (hc : X.calm = true) : CallR X (.builtin "sum") (rSum X.K) := by
  intro pins s σ H xs us Q I r h
  obtain ⟨a, ns, rfl, hq, q⟩ := h
  cases r with
  | cons r rr =>
    cases rr
    cases r
    obtain ⟨its, rv, pl, hz⟩ := I.list hq
    obtain ⟨hl, hv⟩ := vals_ints rv
    obtain ⟨o, n, eo, _⟩ := id pl
    have hlt : a < s.heap.objs.size := Heap.lt_size eo
    refine call_sum_walkG (wpAny_pyIter_list pl.isList ?_)
    refine ⟨s.heap.objs.size, _, _, _, _, _, fun i => ns.getD i 0, rfl, Walks.list (A := X.A.in1) (I.ok.hd hc) s.heap.objs.size a (Nat.ne_of_lt hlt) its.toArray, ?_, ?_, ?_, ?_⟩
    · exact ⟨⟨_, Heap.get?_push_size _ rfl, rfl, rfl⟩, pl.isList.at fun o e => Heap.get?_push_of_some _ e⟩
    · intro b hb
      have hsz : ∀ o, (s.heap.push o).objs.size = s.heap.objs.size + 1 := fun o => by simp [Heap.push]
      show b < (s.heap.push _).objs.size
      rw [hsz]
      rcases List.mem_cons.mp hb with rfl | hb
      · exact Nat.lt_succ_self _
      · have : b = a := by simpa using hb
        subst this
        exact Nat.lt_succ_of_lt hlt
    · intro i v h
      exact hv i v (by simpa using h)
    · intro h' tk t' hk
      refine ⟨.int _, H, I.kept (t' := tk) fun b o e => hk b o (fun z => ?_) (Heap.get?_push_of_some _ e), ⟨t', rfl⟩, ?_⟩
      · have : b = s.heap.objs.size := by simpa using z
        exact Nat.lt_irrefl _ (this ▸ Heap.lt_size e)
      · rw [show its.toArray.size = ns.length by simpa using hl, preSum_take ns _ (Nat.le_refl _), List.take_length]
        exact q
theorem xe_sum (hc : X.calm = true) (hg : Gl X "sum") (hm : X.mg "sum" = none) (ha : AX X [e] m1 g) (he : starEach [e] X.env = [(false, eval e X.env)] := by rfl) : EX X (.Call (.Name "sum" p) [e] [] pos) m1 (pCaS dSum g) := xe_callS (r := rSum X.K) sum_ok (call_sumL hc) hg hm PyProof.Rows.boot_sum ha (by decide) (by decide) he rfl
end
end PL
namespace PL
open PySem L2 Nh
noncomputable def pCutT (m2 : Bool) (f : PEv) (lo hi : POv) : PEv := fun E => (f E).bind fun a => if m2 && a.1.isBr then none else (lo a.2).bind fun b => (hi b.2).bind fun c => match look c.2 a.1 with
  | some (.tuple ds) => if flatA ds && !(HT.sIx ds.length 0 b.1 == 0 && HT.sIx ds.length ds.length c.1 == ds.length) then some (.sh (.tuple (cutD ds b.1 c.1)), c.2) else none
  | _ => none
theorem xe_cutT {X : Cx} {e : Expr} {lo hi : Option Expr} {m1 m2 m3 : Bool} {f : PEv} {g h : POv} {pos p2 : Pos} (he : EX X e m1 f) (hl : OX X lo m2 g) (hh : OX X hi m3 h) : EX X (.Subscript e (.Slice lo hi none p2) pos) (m1 || (m2 || m3)) (pCutT (m2 || m3) f g h) := by
  refine pe_imp (pe_slice sl_tup he hl hh) fun σ H Q z => ?_
  obtain ⟨B, E, xs, Xs, res, E', fr, cl, e, q⟩ := z
  obtain ⟨⟨s, E1⟩, e1, e⟩ := Option.bind_eq_some_iff.mp e
  by_cases hb : ((m2 || m3) && s.isBr) = true
  · rw [if_pos hb] at e; cases e
  rw [if_neg hb] at e
  have n1 : (m2 || m3) = true → s.isBr = false := fun z => by
    cases hs : s.isBr with
    | false => rfl
    | true => exact absurd (by rw [z, hs]; rfl) hb
  obtain ⟨⟨l, E2⟩, e2, e⟩ := Option.bind_eq_some_iff.mp e
  obtain ⟨⟨u, E3⟩, e3, e⟩ := Option.bind_eq_some_iff.mp e
  refine ⟨B, E, xs, Xs, s, E1, fr, fun z => cl (by simp [z]), e1, fun v1 H1 fr1 => ?_⟩
  refine ⟨B, E1, v1 :: xs, s :: Xs, l, E2, fr1, fun z => Calm.cons (cl (by simp [z])) (n1 (by simp [z])), e2, fun H2 fr2 => ?_⟩
  refine ⟨B, E2, v1 :: xs, s :: Xs, u, E3, fr2, fun z => Calm.cons (cl (by simp [z])) (n1 (by simp [z])), e3, fun H3 ⟨F, A, fr3⟩ => ?_⟩
  simp only at e
  split at e
  · rename_i ds ld
    split at e
    · rename_i hc
      cases e
      rw [Bool.and_eq_true, Bool.not_eq_true'] at hc
      obtain ⟨v, ev, r, f0⟩ := fr3.look (k := 0) rfl ld
      cases ev
      obtain ⟨A', fr4⟩ := fr3.pop
      cases r with
      | tup h1 h2 =>
        have hlen := h2.len
        refine ⟨_, _, rfl, h1, ?_, fun p hp => q _ _ ⟨_, _, fr4.newt ((fr3.coldA h2 hc.1).cut l u) hp⟩⟩
        rw [hlen]
        intro z
        have := hc.2
        simp [z.1, z.2] at this
    · cases e
  · cases e
noncomputable def pAddT : P2 := fun E s1 s2 => (look E s1).bind fun d1 => (look E s2).bind fun d2 => match d1, d2 with
  | .tuple a, .tuple b => if flatA a && flatA b && decide (a.length + b.length ≤ 1000000) && (!a.isEmpty && !b.isEmpty) then some (.sh (.tuple (a ++ b)), E) else none
  | _, _ => none
theorem pAddT_ok {K : PySem.W.Frag} : BinOk K (rCatT K) pAddT := by
  intro B F A σ H E xs Xs v1 v2 s1 s2 res E' Q fr e q
  obtain ⟨d1, e1, e⟩ := Option.bind_eq_some_iff.mp e
  obtain ⟨d2, e2, e⟩ := Option.bind_eq_some_iff.mp e
  have r1 := (fr.look1 e1).1
  have r2 := (fr.look0 e2).1
  split at e
  · split at e
    · rename_i hc
      cases e
      simp only [Bool.and_eq_true, decide_eq_true_eq] at hc
      cases r1 with
      | tup h1 h2 =>
        cases r2 with
        | tup h3 h4 =>
          have l1 := h2.len
          have l2 := h4.len
          have n1 := hc.2.1
          have n2 := hc.2.2
          refine ⟨_, _, _, _, rfl, rfl, h1, h3, fun z => ?_, smallE (by omega), fun z => ?_, fun _ p hp => q _ _ ?_⟩
          · subst z
            cases h2
            simp at n1
          · subst z
            cases h4
            simp at n2
          · have c1 := fr.coldA h2 hc.1.1.1
            have c2 := fr.coldA h4 hc.1.1.2
            obtain ⟨A1, f1⟩ := fr.pop
            obtain ⟨A2, f2⟩ := f1.pop
            exact ⟨_, _, f2.newt (c1.append c2) hp⟩
    · cases e
  · cases e
theorem xe_addT {X : Cx} {a b : Expr} {m1 m2 : Bool} {f g : PEv} {pos : Pos} (ha : EX X a m1 f) (hb : EX X b m2 g) : EX X (.BinOp a .Add b pos) (m1 || m2) (pBin pAddT m2 f g) := xe_op op_catT pAddT_ok ha hb
end PL
namespace PL
open PySem L2 Nh
theorem xe_gint {X : Cx} {x : Str} {i : Int} {t : Tok} {pos : Pos} (hg : Gl X x) (hm : X.mg x = some (.int i t)) (hd : (x == ("__debug__" : Str)) = false := by decide) : EX X (.Name x pos) false (pC (.int i)) := by
  refine pe_imp (pe_glob (v := .int i) hg hm ⟨t, rfl⟩ hd) fun σ H Q z => ?_
  obtain ⟨B, E, xs, Xs, res, E', ⟨F, A, fr⟩, cl, e, q⟩ := z
  cases e
  exact q _ _ ⟨F, A, fr.push ⟨rfl, _, rfl, .int _⟩⟩
end PL
namespace Nh
open PySem L2
theorem NailsOk.stp {r : List Pc} {p : Pc} (h : NailsOk r) (hp : p.1 < 128) : NailsOk (NH.stp r p) := by
  cases r with
  | nil =>
    show NailsOk (if p.2 = 0 then [] else [p])
    split
    · exact h
    · intro q hq; rw [List.mem_singleton.mp hq]; exact hp
  | cons x r =>
    rw [NH.stp_cons]
    intro q hq
    rcases List.mem_append.mp hq with h1 | h1
    · unfold NH.hd2 at h1
      split at h1
      · split at h1
        · cases h1
        · rw [List.mem_singleton.mp h1]; exact hp
      · split at h1
        · rw [List.mem_singleton.mp h1]; exact h x (List.mem_cons_self ..)
        · rcases List.mem_cons.mp h1 with h2 | h2
          · rw [h2]; exact hp
          · rw [List.mem_singleton.mp h2]; exact h x (List.mem_cons_self ..)
    · exact h q (List.mem_cons_of_mem _ h1)
theorem NailsOk.foldl : ∀ (c : List Pc) {r : List Pc}, NailsOk r → NailsOk c → NailsOk (c.foldl NH.stp r)
  | [], _, h, _ => h
  | p :: c, _, h, hc => NailsOk.foldl c (h.stp (hc p (List.mem_cons_self ..))) fun q hq => hc q (List.mem_cons_of_mem _ hq)
theorem NailsOk.reverse {c : List Pc} (h : NailsOk c) : NailsOk c.reverse := fun p hp => h p (List.mem_reverse.mp hp)
theorem NailsOk.append {c d : List Pc} (h : NailsOk c) (h' : NailsOk d) : NailsOk (c ++ d) := fun p hp => (List.mem_append.mp hp).elim (h p) (h' p)
theorem NailsOk.contr {c : List Pc} (h : NailsOk c) : NailsOk (NH.contr c) := fun p hp => by
  obtain ⟨q, hq, e⟩ := List.mem_map.mp hp
  subst e
  exact h q (List.mem_reverse.mp hq)
theorem NailsOk.short {c : List Pc} (h : NailsOk c) : NailsOk (NH.short c) := (NailsOk.foldl c (fun _ z => by cases z) h).reverse
theorem nails_nil : NailsOk [] := fun _ z => by cases z
end Nh
namespace Nh
open PySem L2 PL
theorem az_at : ∀ j, j < 26 → (Str.ofString "abcdefghijklmnopqrstuvwxyz").cps.toList[j]? = some (97 + j) := by decide +kernel
theorem az_m (v : Int) : atI (Str.ofString "abcdefghijklmnopqrstuvwxyz").cps.toList (v % 26) = some (97 + (v % 26).toNat) := by
  have h0 := Int.emod_nonneg v (show (26 : Int) ≠ 0 by decide)
  have h1 := Int.emod_lt_of_pos v (show (0 : Int) < 26 by decide)
  rw [atI_nn h0]
  exact az_at _ (by omega)
theorem len_az : (Str.ofString "abcdefghijklmnopqrstuvwxyz").length ≤ 1000000 := by decide +kernel
theorem okMul_r {i j : Int} (h1 : -(2 ^ 64) < j) (h2 : j < 2 ^ 64) : okMul i j = true := by
  simp only [okMul, Bool.or_eq_true, decide_eq_true_eq]
  exact .inl (.inr ⟨h1, h2⟩)
theorem okMul_l {i j : Int} (h1 : -(2 ^ 64) < i) (h2 : i < 2 ^ 64) : okMul i j = true := by
  simp only [okMul, Bool.or_eq_true, decide_eq_true_eq]
  exact .inl (.inl ⟨h1, h2⟩)
theorem okDiv_of {j : Int} (h1 : 0 < j) (h2 : j < 2 ^ 200) : okDiv j = true := decide_eq_true ⟨h1, h2⟩
theorem dEq_int (i j : Int) : dEq (.int i) (.int j) = some (decide (i = j)) := rfl
theorem dEq_str (i j : Str) : dEq (.str i) (.str j) = some (decide (i = j)) := rfl
theorem dEq_cord {c d : List Pc} (hc : NailsOk c) (hd : NailsOk d) : dEq (.list (c.map pcD)) (.list (d.map pcD)) = some (decide (c = d)) := by
  have e : dEq (.list (c.map pcD)) (.list (d.map pcD)) = (if SeqAt.shaped (cordD c) && SeqAt.shaped (cordD d) then some (PyData.eqv (cordD c) (cordD d)) else none) := rfl
  rw [e, cord_shaped hc, cord_shaped hd, cord_eqv]
  rfl
theorem dEq_cord_nil {c : List Pc} (hc : NailsOk c) : dEq (.list (c.map pcD)) (.list []) = some (decide (c = [])) := dEq_cord hc nails_nil
theorem str1_eq (a b : Nat) : ((⟨#[a]⟩ : Str) = ⟨#[b]⟩) = (a = b) := propext ⟨fun h => by
  injection h with h
  simpa using congrArg Array.toList h, fun h => by rw [h]⟩
end Nh
namespace NH
noncomputable def chN : Nat → Nat → Nat
  | _, 0 => 1
  | 0, _ + 1 => 0
  | n + 1, k + 1 => chN n (k + 1) + chN n k
noncomputable def chM : Nat → Nat → Int
  | _, 0 => 1
  | 0, _ + 1 => 0
  | m + 1, k + 1 => chM m (k + 1) - chM (m + 1) k
noncomputable def ch (n : Int) (k : Nat) : Int := match n with
  | .ofNat n => (chN n k : Int)
  | .negSucc m => chM (m + 1) k
section
variable {α : Type}
noncomputable def conv (f g : List α → Int) : List α → Int
  | [] => f [] * g []
  | a :: w => f [] * g (a :: w) + conv (fun u => f (a :: u)) g w
noncomputable def eps : List α → Int
  | [] => 1
  | _ :: _ => 0
end
section
variable {α : Type} [DecidableEq α]
noncomputable def piece (p : α × Int) (w : List α) : Int := if w.all (fun b => decide (b = p.1)) then ch p.2 w.length else 0
noncomputable def times (w : List α) (c : List (α × Int)) : Int := c.foldr (fun p f => conv (piece p) f) eps w
end
end NH
namespace NH
variable {α : Type} [DecidableEq α]
end NH
namespace Nh
open PySem L2 PL
noncomputable def CordOk (c : List Pc) : Prop := ∀ p ∈ c, p.1 < 128 ∧ p.2.natAbs < 2 ^ 100
theorem CordOk.n {c : List Pc} (h : CordOk c) : NailsOk c := fun p hp => (h p hp).1
theorem CordOk.append {c d : List Pc} (h : CordOk c) (h' : CordOk d) : CordOk (c ++ d) := fun p hp => (List.mem_append.mp hp).elim (h p) (h' p)
theorem CordOk.contr {c : List Pc} (h : CordOk c) : CordOk (NH.contr c) := fun p hp => by
  obtain ⟨q, hq, e⟩ := List.mem_map.mp hp
  subst e
  have := h q (List.mem_reverse.mp hq)
  exact ⟨this.1, by simpa using this.2⟩
theorem CordOk.cutL {c : List Pc} (h : CordOk c) (lo hi : Option Int) : CordOk (cutL c lo hi) := fun p hp => h p (cutL_mem hp)
theorem cord_nil : CordOk [] := fun _ z => by cases z
end Nh
namespace NH
variable {α : Type} [DecidableEq α]
end NH
namespace NH
section
variable {α : Type} [DecidableEq α]
noncomputable def Rot (a b : List (α × Int)) : Prop := ∃ u v, a = u ++ v ∧ b = v ++ u
theorem Rot.trans {a b c : List (α × Int)} (h : Rot a b) (k : Rot b c) : Rot a c := by
  obtain ⟨u, v, rfl, e⟩ := h
  obtain ⟨x, y, e2, rfl⟩ := k
  rw [e] at e2
  rcases List.append_eq_append_iff.mp e2 with ⟨w, e3, e4⟩ | ⟨w, e3, e4⟩
  · subst e3 e4
    exact ⟨w, y ++ v, by simp, by simp⟩
  · subst e3 e4
    exact ⟨u ++ x, w, by simp, by simp⟩
theorem short_of_red {w : List (α × Int)} (h : Red w) : short w = w := by rw [short_eq_runs, runs_of_red h]
end
end NH
namespace NH
variable {α : Type} [DecidableEq α]
theorem one_left {a a' : List (α × Int)} (h : short a = short a') (b : List (α × Int)) : short (a ++ b) = short (a' ++ b) := by
  have k : stk a = stk a' := by
    have := congrArg List.reverse h
    simpa [short] using this
  unfold short stk at *
  rw [List.foldl_append, List.foldl_append, k]
theorem one_right {b b' : List (α × Int)} (a : List (α × Int)) (h : short b = short b') : short (a ++ b) = short (a ++ b') := by
  rw [short_eq_runs, short_eq_runs] at h ⊢
  unfold runs at *
  rw [List.foldr_append, List.foldr_append, h]
theorem one_app {a a' b b' : List (α × Int)} (h : short a = short a') (k : short b = short b') : short (a ++ b) = short (a' ++ b') := (one_left h b).trans (one_right a' k)
theorem cancel (A X B : List (α × Int)) : short (A ++ (X ++ contr X) ++ B) = short (A ++ B) := by
  have := short_mid (A := A) (B := B) (X := X ++ contr X) (Y := []) (mid_back X)
  simpa using this
theorem cancel' (A X B : List (α × Int)) : short (A ++ (contr X ++ X) ++ B) = short (A ++ B) := by
  have := cancel A (contr X) B
  rwa [contr_contr] at this
end NH
namespace NH
variable {α : Type} [DecidableEq α]
noncomputable def pw {β : Type} (t : Nat) (v : List β) : List β := (List.replicate t v).flatten
theorem pw_zero {β : Type} (v : List β) : pw 0 v = [] := rfl
theorem pw_succ {β : Type} (t : Nat) (v : List β) : pw (t + 1) v = v ++ pw t v := by simp [pw, List.replicate_succ]
theorem pw_len {β : Type} (t : Nat) (v : List β) : (pw t v).length = t * v.length := by
  induction t with
  | zero => simp [pw_zero]
  | succ t ih => rw [pw_succ, List.length_append, ih, Nat.succ_mul]; omega
theorem pw_like {a b : List (α × Int)} (h : short a = short b) : ∀ t, short (pw t a) = short (pw t b)
  | 0 => rfl
  | t + 1 => by rw [pw_succ, pw_succ]; exact one_app h (pw_like h t)
theorem pw_run (n : α) (a : Int) : ∀ t : Nat, short (pw t [(n, a)]) = short [(n, a * (t : Int))]
  | 0 => by simp [pw_zero, short, stk, stp]
  | t + 1 => by
    rw [pw_succ, one_right _ (pw_run n a t)]
    have := short_mid (A := []) (B := []) (mid_join n a (a * (t : Int)))
    simp only [List.nil_append, List.append_nil] at this
    show short [(n, a), (n, a * (t : Int))] = _
    rw [← this]
    congr 3
    rw [Int.natCast_succ, Int.mul_add, Int.mul_one, Int.add_comm]
end NH
namespace Nh
open NH
theorem short_nails {α : Type} [DecidableEq α] : ∀ {c : List (α × Int)} {p : α × Int}, p ∈ short c → ∃ q ∈ c, p.1 = q.1 := by
  intro c
  induction c with
  | nil => intro p hp; cases hp
  | cons q c ih =>
    intro p hp
    rw [short_cons] at hp
    have key : p ∈ stp (short c) q → p.1 = q.1 ∨ p ∈ short c := fun h => by
      cases hs : short c with
      | nil =>
        rw [hs] at h
        have h : p ∈ (if q.2 = 0 then [] else [q]) := h
        split at h
        · cases h
        · exact Or.inl (by rw [List.mem_singleton.mp h])
      | cons x r =>
        rw [hs, stp_cons] at h
        rcases List.mem_append.mp h with h | h
        · unfold hd2 at h
          split at h
          · split at h
            · cases h
            · exact Or.inl (by rw [List.mem_singleton.mp h])
          · split at h
            · exact Or.inr (by rw [List.mem_singleton.mp h]; exact List.mem_cons_self ..)
            · rcases List.mem_cons.mp h with h | h
              · exact Or.inl (by rw [h])
              · exact Or.inr (by rw [List.mem_singleton.mp h]; exact List.mem_cons_self ..)
        · exact Or.inr (List.mem_cons_of_mem _ h)
    rcases key hp with h | h
    · exact ⟨q, List.mem_cons_self .., h⟩
    · obtain ⟨r, hr, e⟩ := ih h
      exact ⟨r, List.mem_cons_of_mem _ hr, e⟩
end Nh
namespace NH
variable {α : Type} [DecidableEq α]
noncomputable def zpw (z : Int) (v : List (α × Int)) : List (α × Int) := if z < 0 then pw z.natAbs (contr v) else pw z.natAbs v
theorem zpw_nat (k : Nat) (v : List (α × Int)) : zpw (k : Int) v = pw k v := by
  unfold zpw
  rw [if_neg (by omega)]
  simp
theorem zpw_neg (k : Nat) (v : List (α × Int)) : zpw (-(k : Int)) v = pw k (contr v) := by
  unfold zpw
  cases k with
  | zero => simp [pw]
  | succ k => rw [if_pos (by omega)]; congr 1
theorem zpw_zero (v : List (α × Int)) : zpw 0 v = [] := rfl
theorem zpw_up (v : List (α × Int)) (a : Int) : short (v ++ zpw a v) = short (zpw (a + 1) v) := by
  by_cases h : 0 ≤ a
  · obtain ⟨k, rfl⟩ : ∃ k : Nat, a = k := ⟨a.toNat, by omega⟩
    rw [zpw_nat, show ((k : Int) + 1) = ((k + 1 : Nat) : Int) by omega, zpw_nat, pw_succ]
  · obtain ⟨k, rfl⟩ : ∃ k : Nat, a = -((k + 1 : Nat) : Int) := ⟨(-a).toNat - 1, by omega⟩
    rw [zpw_neg, show -((k + 1 : Nat) : Int) + 1 = -(k : Int) by omega, zpw_neg, pw_succ]
    have := cancel [] v (pw k (contr v))
    simpa using this
theorem zpw_down (v : List (α × Int)) (a : Int) : short (contr v ++ zpw a v) = short (zpw (a - 1) v) := by
  have h := one_right (contr v) (zpw_up v (a - 1))
  have k := cancel' [] v (zpw (a - 1) v)
  simp only [List.nil_append, List.append_assoc] at k
  rw [show a - 1 + 1 = a by omega] at h
  rw [← h, k]
theorem zpw_add (v : List (α × Int)) (a b : Int) : short (zpw a v ++ zpw b v) = short (zpw (a + b) v) := by
  by_cases h : 0 ≤ a
  · obtain ⟨k, rfl⟩ : ∃ k : Nat, a = k := ⟨a.toNat, by omega⟩
    clear h
    induction k with
    | zero => simp [zpw_zero]
    | succ k ih =>
      rw [zpw_nat] at ih ⊢
      rw [pw_succ, List.append_assoc, one_right v ih, zpw_up]
      congr 2
      omega
  · obtain ⟨k, rfl⟩ : ∃ k : Nat, a = -(k : Int) := ⟨(-a).toNat, by omega⟩
    clear h
    induction k with
    | zero => simp [zpw_zero]
    | succ k ih =>
      rw [zpw_neg] at ih ⊢
      rw [pw_succ, List.append_assoc, one_right (contr v) ih, zpw_down]
      congr 2
      omega
structure Hom (f : α × Int → List (α × Int)) : Prop where
  zero : ∀ n, short (f (n, 0)) = []
  add : ∀ n a b, short (f (n, a) ++ f (n, b)) = short (f (n, a + b))
theorem Hom.stp {f : α × Int → List (α × Int)} (h : Hom f) (r : List (α × Int)) (p : α × Int) : short ((stp r p).flatMap f) = short (f p ++ r.flatMap f) := by
  have z : ∀ (q : α × Int) (X : List (α × Int)), q.2 = 0 → short (f q ++ X) = short X := fun q X hq => by
    have e : q = (q.1, 0) := by rw [← hq]
    rw [e]
    have := one_left (show short (f (q.1, 0)) = short [] by rw [h.zero]; rfl) X
    simpa using this
  cases r with
  | nil =>
    show short ((if p.2 = 0 then [] else [p]).flatMap f) = _
    split
    · rename_i hp
      rw [z p _ hp]
    · simp
  | cons q r =>
    rw [stp_cons, List.flatMap_append, List.flatMap_cons]
    unfold hd2
    split
    · rename_i e
      have k : short (f p ++ f q) = short (f (p.1, q.2 + p.2)) := by
        have := h.add p.1 p.2 q.2
        rw [show (p.1, q.2) = q by rw [← e], show (p.1, p.2) = p from rfl, Int.add_comm] at this
        exact this
      rw [← List.append_assoc, one_left k]
      split
      · rename_i e2
        rw [e2, z (p.1, 0) _ rfl]
        simp
      · simp
    · split
      · rename_i hp
        rw [z p _ hp]
        simp
      · simp
theorem Hom.runs {f : α × Int → List (α × Int)} (h : Hom f) : ∀ c : List (α × Int), short ((runs c).flatMap f) = short (c.flatMap f)
  | [] => rfl
  | p :: c => by
    have : NH.runs (p :: c) = NH.stp (NH.runs c) p := rfl
    rw [this, h.stp, List.flatMap_cons, one_right (f p) (h.runs c)]
theorem Hom.short {f : α × Int → List (α × Int)} (h : Hom f) (c : List (α × Int)) : NH.short ((NH.short c).flatMap f) = NH.short (c.flatMap f) := by rw [short_eq_runs c, h.runs]
end NH
namespace Nh
open PySem L2 PL
inductive Mv where
  | turn (n : Nat)
  | change (n m : Nat)
  | slide (n m : Nat) (t : Int)
noncomputable def mvD : Mv → PyData
  | .turn n => .tuple [.str "turn", .str ⟨#[n]⟩]
  | .change n m => .tuple [.str "change", .str ⟨#[n]⟩, .str ⟨#[m]⟩]
  | .slide n m t => .tuple [.str "slide", .str ⟨#[n]⟩, .str ⟨#[m]⟩, .int t]
noncomputable def img : Mv → Pc → List Pc
  | .turn n, p => if p.1 = n then [(p.1, -p.2)] else [p]
  | .change n m, p => if p.1 = n then [(m, p.2)] else if p.1 = m then [(n, p.2)] else [p]
  | .slide n m t, p => if p.1 = n then (if p.2 < 0 then NH.pw p.2.natAbs [(m, -t), (n, -1)] else NH.pw p.2.natAbs [(n, 1), (m, t)]) else [p]
noncomputable def Mv.inv : Mv → Mv
  | .turn n => .turn n
  | .change n m => .change n m
  | .slide n m t => .slide n m (-t)
noncomputable def Mv.ok : Mv → Prop
  | .turn _ => True
  | .change n m => n ≠ m
  | .slide n m _ => n ≠ m
theorem short_zero (n : Nat) : NH.short [((n, 0) : Pc)] = [] := by simp [NH.short, NH.stk, NH.stp]
theorem short_two (n : Nat) (a b : Int) : NH.short ([((n, a) : Pc)] ++ [(n, b)]) = NH.short [((n, a + b) : Pc)] := by
  have := NH.short_mid (A := ([] : List Pc)) (B := []) (NH.mid_join n a b)
  simp only [List.nil_append, List.append_nil] at this
  exact this.symm
theorem img_slide (n m : Nat) (t a : Int) (x : Nat) : img (.slide n m t) (x, a) = if x = n then NH.zpw a [(n, 1), (m, t)] else [(x, a)] := by
  unfold img NH.zpw
  simp only
  split
  · rfl
  · rfl
theorem img_hom (mv : Mv) : NH.Hom (img mv) := by
  cases mv with
  | turn n =>
    refine ⟨fun x => ?_, fun x a b => ?_⟩
    · unfold img
      simp only
      split
      · exact short_zero x
      · exact short_zero x
    · unfold img
      simp only
      split
      · rw [short_two, show -a + -b = -(a + b) by omega]
      · rw [short_two]
  | change n m =>
    refine ⟨fun x => ?_, fun x a b => ?_⟩
    · unfold img
      simp only
      split
      · exact short_zero m
      · split
        · exact short_zero n
        · exact short_zero x
    · unfold img
      simp only
      split
      · rw [short_two]
      · split
        · rw [short_two]
        · rw [short_two]
  | slide n m t =>
    refine ⟨fun x => ?_, fun x a b => ?_⟩
    · rw [img_slide]
      split
      · rfl
      · exact short_zero x
    · rw [img_slide, img_slide, img_slide]
      split
      · exact NH.zpw_add _ a b
      · exact short_two x a b
theorem flat_pw (g : Pc → List Pc) (v : List Pc) : ∀ k, (NH.pw k v).flatMap g = NH.pw k (v.flatMap g)
  | 0 => rfl
  | k + 1 => by rw [NH.pw_succ, List.flatMap_append, flat_pw g v k, NH.pw_succ]
theorem back_piece {mv : Mv} (ok : mv.ok) (p : Pc) : NH.short ((img mv p).flatMap (img mv.inv)) = NH.short [p] := by
  obtain ⟨x, a⟩ := p
  cases mv with
  | turn n =>
    by_cases h : x = n
    · simp [img, Mv.inv, h]
    · simp [img, Mv.inv, h]
  | change n m =>
    have ne : n ≠ m := ok
    by_cases h : x = n
    · subst h
      have h2 : ¬ m = x := fun z => ne z.symm
      simp [img, Mv.inv, h2]
    · by_cases h2 : x = m
      · subst h2
        simp [img, Mv.inv, h]
      · simp [img, Mv.inv, h, h2]
  | slide n m t =>
    have ne : n ≠ m := ok
    have mn : ¬ m = n := fun z => ne z.symm
    rw [img_slide]
    by_cases h : x = n
    · rw [if_pos h]
      subst h
      have e1 : NH.short ([((x, 1) : Pc), (m, t)].flatMap (img (Mv.slide x m t).inv)) = NH.short [((x, 1) : Pc)] := by
        have : [((x, 1) : Pc), (m, t)].flatMap (img (Mv.slide x m t).inv) = [((x, 1) : Pc)] ++ ([((m, -t) : Pc)] ++ [(m, t)]) := by
          simp [img, Mv.inv, mn, NH.pw]
        rw [this, NH.one_right _ (short_two m (-t) t), show -t + t = 0 by omega]
        have z : NH.short [((m, 0) : Pc)] = NH.short [] := short_zero m
        rw [NH.one_right _ z]
        rfl
      have e2 : NH.short ((NH.contr [((x, 1) : Pc), (m, t)]).flatMap (img (Mv.slide x m t).inv)) = NH.short [((x, -1) : Pc)] := by
        have : (NH.contr [((x, 1) : Pc), (m, t)]).flatMap (img (Mv.slide x m t).inv) = ([((m, -t) : Pc)] ++ [(m, t)]) ++ [((x, -1) : Pc)] := by
          simp [NH.contr, img, Mv.inv, mn, NH.pw]
        rw [this, NH.one_left (short_two m (-t) t), show -t + t = 0 by omega]
        have z : NH.short [((m, 0) : Pc)] = NH.short [] := short_zero m
        rw [NH.one_left z]
        rfl
      by_cases s : 0 ≤ a
      · obtain ⟨k, rfl⟩ : ∃ k : Nat, a = k := ⟨a.toNat, by omega⟩
        rw [NH.zpw_nat, flat_pw, NH.pw_like e1, NH.pw_run, Int.one_mul]
      · obtain ⟨k, rfl⟩ : ∃ k : Nat, a = -(k : Int) := ⟨(-a).toNat, by omega⟩
        rw [NH.zpw_neg, flat_pw, NH.pw_like e2, NH.pw_run, show (-1 : Int) * (k : Int) = -(k : Int) by omega]
    · rw [if_neg h]
      simp [img, Mv.inv, h]
theorem back_all {mv : Mv} (ok : mv.ok) : ∀ c : List Pc, NH.short ((c.flatMap (img mv)).flatMap (img mv.inv)) = NH.short c
  | [] => rfl
  | p :: c => by
    rw [List.flatMap_cons, List.flatMap_append]
    have := NH.one_app (back_piece ok p) (back_all ok c)
    exact this
noncomputable def movs (ms : List Mv) (c : List Pc) : List Pc := ms.foldl (fun r mv => NH.short (r.flatMap (img mv))) (NH.short c)
theorem movs_one (ms : List Mv) {c d : List Pc} (h : NH.short c = NH.short d) : movs ms c = movs ms d := by
  unfold movs
  rw [h]
theorem inv_inv (mv : Mv) : mv.inv.inv = mv := by cases mv <;> simp [Mv.inv]
theorem movs_cons (mv : Mv) (ms : List Mv) (c : List Pc) : movs (mv :: ms) c = movs ms (c.flatMap (img mv)) := by
  unfold movs
  rw [List.foldl_cons, (img_hom mv).short, ]
theorem movs_append (ms ns : List Mv) (c : List Pc) : movs (ms ++ ns) c = movs ns (movs ms c) := by
  unfold movs
  rw [List.foldl_append]
  congr 1
  have : ∀ (l : List Mv) (r : List Pc), NH.short r = r → NH.short (l.foldl (fun r mv => NH.short (r.flatMap (img mv))) r) = l.foldl (fun r mv => NH.short (r.flatMap (img mv))) r := fun l => by
    induction l with
    | nil => intro r h; exact h
    | cons mv l ih => intro r _; exact ih _ (NH.short_short _)
  exact (this ms _ (NH.short_short c)).symm
theorem movs_back : ∀ (ms : List Mv) (c : List Pc), (∀ mv ∈ ms, mv.ok) → movs (ms ++ (ms.reverse.map Mv.inv)) c = NH.short c
  | [], c, _ => rfl
  | mv :: ms, c, h => by
    have e : mv :: ms ++ ((mv :: ms).reverse.map Mv.inv) = mv :: ((ms ++ ms.reverse.map Mv.inv) ++ [mv.inv]) := by simp
    rw [e, movs_cons, movs_append, movs_back ms _ fun x hx => h x (List.mem_cons_of_mem _ hx), movs_one [mv.inv] (NH.short_short _), movs_cons]
    show NH.short _ = _
    exact back_all (h mv (List.mem_cons_self ..)) c
end Nh
namespace Nhk72
open PySem L2 Nh PL
noncomputable def g_is_nail : PSv := (pRet (pAndV (pUn (dIsi .str) (pVar 0)) (pAndV (pBin pEq false (pCaS dLen (aCons false (pVar 0) aNil)) (pC (.int 1))) (pChain (dCmp .le) (dCmp .le) false false (pC (.str "a")) (pVar 0) (pC (.str "z"))))))
noncomputable def fn_is_nail : List PyData → Option Sl := fnB 1 1 g_is_nail
noncomputable def g_is_whole : PSv := (pRet (pAndV (pUn (dIsi .int) (pVar 0)) (pUn dNot (pUn (dIsi .bool) (pVar 0)))))
noncomputable def fn_is_whole : List PyData → Option Sl := fnB 1 1 g_is_whole
noncomputable def t_short_form_L0 : PGv := (gTupP 2 (gConsP (gNameP 2) (gConsP (gNameP 3) gNilP)))
noncomputable def g_short_form_L0 : PSv := (pSeq (pSet 4 (pVar 3))
  (pSeq (pIfS (tAndP (pTru (pVar 1)) (isB (pBin pEq false (pBin pIx false (pBin pIx false (pVar 1) (pUn dNeg (pC (.int 1)))) (pC (.int 0))) (pVar 2))))
  (pSet 4 (pBin pAdd false (pBin pIx false (pPop 1) (pC (.int 1))) (pVar 3)))
  pNext)
  (pIfS (isB (pBin pNe false (pVar 4) (pC (.int 0))))
  (pExpr (pAppend 1 (pTup (dCons (pVar 2) (dCons (pVar 4) dNil)))))
  pNext)))
noncomputable def g_short_form : PSv := (pSeq (pSet 1 (pLst dNil))
  (pSeq (pFor (iAny (pVar 0)) t_short_form_L0
  g_short_form_L0)
  (pRet (pVar 1))))
noncomputable def fn_short_form : List PyData → Option Sl := fnB 1 5 g_short_form
noncomputable def t_contrary_C0 : PGv := (gTupP 2 (gConsP (gNameP 0) (gConsP (gNameP 1) gNilP)))
noncomputable def e_contrary_C0 : PEv := (pTup (dCons (pVar 0) (dCons (pUn dNeg (pVar 1)) dNil)))
noncomputable def g_contrary : PSv := (pRet (pComp [none, none] (iRevP (pVar 0)) t_contrary_C0 tYesP e_contrary_C0))
noncomputable def fn_contrary : List PyData → Option Sl := fnB 1 1 g_contrary
noncomputable def g_repeated : PSv := (pRet (pBin pMul false (pIf (isB (pBin (sc2 (dCmp .lt)) false (pVar 1) (pC (.int 0)))) (pCall fn_contrary (aCons false (pVar 0) aNil)) (pVar 0)) (pCaS dAbs (aCons false (pVar 1) aNil))))
noncomputable def fn_repeated : List PyData → Option Sl := fnB 2 2 g_repeated
noncomputable def g_are_two_nails : PSv := (pRet (pAndV (pCall fn_is_nail (aCons false (pVar 0) aNil)) (pAndV (pCall fn_is_nail (aCons false (pVar 1) aNil)) (pBin pNe false (pVar 0) (pVar 1)))))
noncomputable def fn_are_two_nails : List PyData → Option Sl := fnB 2 2 g_are_two_nails
noncomputable def g_is_move : PSv := (pSeq (pIfS (tOrP (tNotP (pTru (pUn (dIsi .tuple) (pVar 0)))) (isB (pBin pEq false (pCaS dLen (aCons false (pVar 0) aNil)) (pC (.int 0)))))
  (pRet (pC (.bool false)))
  pNext)
  (pSeq (pIfS (isB (pBin pEq false (pBin pIx false (pVar 0) (pC (.int 0))) (pC (.str "turn"))))
  (pRet (pAndV (pBin pEq false (pCaS dLen (aCons false (pVar 0) aNil)) (pC (.int 2))) (pCall fn_is_nail (aCons false (pBin pIx false (pVar 0) (pC (.int 1))) aNil))))
  pNext)
  (pSeq (pIfS (isB (pBin pEq false (pBin pIx false (pVar 0) (pC (.int 0))) (pC (.str "change"))))
  (pRet (pAndV (pBin pEq false (pCaS dLen (aCons false (pVar 0) aNil)) (pC (.int 3))) (pCall fn_are_two_nails (aCons false (pBin pIx false (pVar 0) (pC (.int 1))) (aCons false (pBin pIx false (pVar 0) (pC (.int 2))) aNil)))))
  pNext)
  (pSeq (pIfS (isB (pBin pEq false (pBin pIx false (pVar 0) (pC (.int 0))) (pC (.str "slide"))))
  (pRet (pAndV (pBin pEq false (pCaS dLen (aCons false (pVar 0) aNil)) (pC (.int 4))) (pAndV (pCall fn_are_two_nails (aCons false (pBin pIx false (pVar 0) (pC (.int 1))) (aCons false (pBin pIx false (pVar 0) (pC (.int 2))) aNil))) (pCall fn_is_whole (aCons false (pBin pIx false (pVar 0) (pC (.int 3))) aNil)))))
  pNext)
  (pRet (pC (.bool false)))))))
noncomputable def fn_is_move : List PyData → Option Sl := fnB 1 1 g_is_move
noncomputable def t_check_moves_L0 : PGv := (gNameP 1)
noncomputable def g_check_moves_L0 : PSv := (pIfS (tNotP (pTru (pCall fn_is_move (aCons false (pVar 1) aNil))))
  pNever
  pNext)
noncomputable def g_check_moves : PSv := (pSeq (pIfS (tNotP (pTru (pUn (dIsi .list) (pVar 0))))
  pNever
  pNext)
  (pFor (iAny (pVar 0)) t_check_moves_L0
  g_check_moves_L0))
noncomputable def fn_check_moves : List PyData → Option Sl := fnB 1 2 g_check_moves
noncomputable def t_pieces_beside_C0 : PGv := (gTupP 2 (gConsP (gNameP 0) (gConsP (gNameP 1) gNilP)))
noncomputable def e_pieces_beside_C0 : PEv := (pIf (isB (pBin pEq false (pVar 0) (pBin pIx false (pVar 2) (pC (.int 1))))) (pBin pMul false (pC (.int 2)) (pCaS dAbs (aCons false (pVar 1) aNil))) (pC (.int 1)))
noncomputable def g_pieces_beside : PSv := (pSeq (pIfS (tOrP (isB (pBin pNe false (pBin pIx false (pVar 1) (pC (.int 0))) (pC (.str "slide")))) (isB (pBin pEq false (pBin pIx false (pVar 1) (pC (.int 3))) (pC (.int 0)))))
  (pRet (pCaS dLen (aCons false (pVar 0) aNil)))
  pNext)
  (pRet (pCaS dSum (aCons false (pComp [none, none, some 1] (iAny (pVar 0)) t_pieces_beside_C0 tYesP e_pieces_beside_C0) aNil))))
noncomputable def fn_pieces_beside : List PyData → Option Sl := fnB 2 2 g_pieces_beside
noncomputable def t_turned_C0 : PGv := (gTupP 2 (gConsP (gNameP 0) (gConsP (gNameP 1) gNilP)))
noncomputable def e_turned_C0 : PEv := (pTup (dCons (pVar 0) (dCons (pIf (isB (pBin pEq false (pVar 0) (pVar 2))) (pUn dNeg (pVar 1)) (pVar 1)) dNil)))
noncomputable def g_turned : PSv := (pRet (pComp [none, none, some 1] (iAny (pVar 0)) t_turned_C0 tYesP e_turned_C0))
noncomputable def fn_turned : List PyData → Option Sl := fnB 2 2 g_turned
noncomputable def t_changed_C0 : PGv := (gTupP 2 (gConsP (gNameP 0) (gConsP (gNameP 1) gNilP)))
noncomputable def e_changed_C0 : PEv := (pTup (dCons (pGet2 (pVar 2) (pVar 0) (pVar 0)) (dCons (pVar 1) dNil)))
noncomputable def g_changed : PSv := (pSeq (pSet 3 (pDisp (((pVar 1), (pVar 2)) :: (((pVar 2), (pVar 1)) :: []))))
  (pRet (pComp [none, none, some 3] (iAny (pVar 0)) t_changed_C0 tYesP e_changed_C0)))
noncomputable def fn_changed : List PyData → Option Sl := fnB 3 4 g_changed
noncomputable def t_slid_L0 : PGv := (gTupP 2 (gConsP (gNameP 5) (gConsP (gNameP 6) gNilP)))
noncomputable def g_slid_L0 : PSv := (pIfS (isB (pBin pEq false (pVar 5) (pVar 1)))
  (pExpr (pExtend 4 (pCall fn_repeated (aCons false (pLst (dCons (pTup (dCons (pVar 5) (dCons (pC (.int 1)) dNil))) (dCons (pTup (dCons (pVar 2) (dCons (pVar 3) dNil))) dNil))) (aCons false (pVar 6) aNil)))))
  (pExpr (pAppend 4 (pTup (dCons (pVar 5) (dCons (pVar 6) dNil))))))
noncomputable def g_slid : PSv := (pSeq (pSet 4 (pLst dNil))
  (pSeq (pFor (iAny (pVar 0)) t_slid_L0
  g_slid_L0)
  (pRet (pCall fn_short_form (aCons false (pVar 4) aNil)))))
noncomputable def fn_slid : List PyData → Option Sl := fnB 4 7 g_slid
noncomputable def g_moved_once : PSv := (pSeq (pIfS (isB (pBin (sc2 (dCmp .gt)) false (pCall fn_pieces_beside (aCons false (pVar 0) (aCons false (pVar 1) aNil))) (pC (.int 4000))))
  pNever
  pNext)
  (pSeq (pIfS (isB (pBin pEq false (pBin pIx false (pVar 1) (pC (.int 0))) (pC (.str "turn"))))
  (pRet (pCall fn_turned (aCons false (pVar 0) (aCons false (pBin pIx false (pVar 1) (pC (.int 1))) aNil))))
  pNext)
  (pSeq (pIfS (isB (pBin pEq false (pBin pIx false (pVar 1) (pC (.int 0))) (pC (.str "change"))))
  (pRet (pCall fn_changed (aCons false (pVar 0) (aCons false (pBin pIx false (pVar 1) (pC (.int 1))) (aCons false (pBin pIx false (pVar 1) (pC (.int 2))) aNil)))))
  pNext)
  (pSeq (pIfS (isB (pBin pEq false (pBin pIx false (pVar 1) (pC (.int 3))) (pC (.int 0))))
  (pRet (pVar 0))
  pNext)
  (pRet (pCall fn_slid (aCons false (pVar 0) (aCons false (pBin pIx false (pVar 1) (pC (.int 1))) (aCons false (pBin pIx false (pVar 1) (pC (.int 2))) (aCons false (pBin pIx false (pVar 1) (pC (.int 3))) aNil))))))))))
noncomputable def fn_moved_once : List PyData → Option Sl := fnB 2 2 g_moved_once
noncomputable def t_moved_L0 : PGv := (gNameP 3)
noncomputable def g_moved_L0 : PSv := (pSet 2 (pCall fn_moved_once (aCons false (pVar 2) (aCons false (pVar 3) aNil))))
noncomputable def g_moved : PSv := (pSeq (pExpr (pCall fn_check_moves (aCons false (pVar 1) aNil)))
  (pSeq (pSet 2 (pCall fn_short_form (aCons false (pVar 0) aNil)))
  (pSeq (pFor (iAny (pVar 1)) t_moved_L0
  g_moved_L0)
  (pRet (pVar 2)))))
noncomputable def fn_moved : List PyData → Option Sl := fnB 2 4 g_moved
noncomputable def g_back_move : PSv := (pSeq (pIfS (isB (pBin pEq false (pBin pIx false (pVar 0) (pC (.int 0))) (pC (.str "slide"))))
  (pRet (pTup (dCons (pC (.str "slide")) (dCons (pBin pIx false (pVar 0) (pC (.int 1))) (dCons (pBin pIx false (pVar 0) (pC (.int 2))) (dCons (pUn dNeg (pBin pIx false (pVar 0) (pC (.int 3)))) dNil))))))
  pNext)
  (pRet (pVar 0)))
noncomputable def fn_back_move : List PyData → Option Sl := fnB 1 1 g_back_move
noncomputable def t_back_moves_C0 : PGv := (gNameP 0)
noncomputable def e_back_moves_C0 : PEv := (pCall fn_back_move (aCons false (pVar 0) aNil))
noncomputable def g_back_moves : PSv := (pSeq (pExpr (pCall fn_check_moves (aCons false (pVar 0) aNil)))
  (pRet (pComp [none] (iRevP (pVar 0)) t_back_moves_C0 tYesP e_back_moves_C0)))
noncomputable def fn_back_moves : List PyData → Option Sl := fnB 1 1 g_back_moves
noncomputable def g_law_at : PSv := (pSeq (pIfS (isB (pBin (sc2 (dCmp .lt)) false (pVar 1) (pCaS dLen (aCons false (pVar 0) aNil))))
  (pRet (pBin pIx false (pVar 0) (pVar 1)))
  pNext)
  (pRet (pC (.int 0))))
noncomputable def fn_law_at : List PyData → Option Sl := fnB 2 2 g_law_at
noncomputable def g_law_stir : PSv := (pSeq (pSet 2 (pBin pMod false (pBin pAdd false (pBin pAdd false (pBin pAdd false (pBin pMod false (pVar 0) (pC (.int 2147483629))) (pBin pMul false (pC (.int 7919)) (pVar 1))) (pBin pMul false (pVar 1) (pVar 1))) (pC (.int 11))) (pC (.int 2147483629))))
  (pSeq (pSet 2 (pBin pMod false (pBin pMul false (pVar 2) (pVar 2)) (pC (.int 2147483587))))
  (pRet (pBin pFdiv false (pBin pMod false (pBin pAdd false (pBin pMul false (pVar 2) (pC (.int 48271))) (pBin pMul false (pC (.int 31)) (pVar 1))) (pC (.int 2147483563))) (pC (.int 13))))))
noncomputable def fn_law_stir : List PyData → Option Sl := fnB 2 3 g_law_stir
noncomputable def t_law_nails_C0 : PGv := (gNameP 0)
noncomputable def e_law_nails_C0 : PEv := (pBin pIx false (pVar 1) (pBin pMod false (pBin pAdd false (pVar 2) (pBin pMul false (pVar 0) (pVar 3))) (pC (.int 26))))
noncomputable def g_law_nails : PSv := (pSeq (pSet 2 (pC (.str "abcdefghijklmnopqrstuvwxyz")))
  (pSeq (pSet 3 (pBin pIx false (pLst (dInts [1, 3, 5, 7, 9, 11, 15, 17, 19, 21, 23, 25])) (pBin pMod false (pBin pFdiv false (pVar 0) (pC (.int 26))) (pC (.int 12)))))
  (pRet (pComp [none, some 2, some 0, some 3] (iRng1P (aCons false (pVar 1) aNil)) t_law_nails_C0 tYesP e_law_nails_C0))))
noncomputable def fn_law_nails : List PyData → Option Sl := fnB 2 4 g_law_nails
noncomputable def t_law_back_C0 : PGv := (gTupP 2 (gConsP (gNameP 0) (gConsP (gNameP 1) gNilP)))
noncomputable def e_law_back_C0 : PEv := (pTup (dCons (pVar 0) (dCons (pBin pSub false (pC (.int 0)) (pVar 1)) dNil)))
noncomputable def g_law_back : PSv := (pSeq (pSet 1 (pComp [none, none] (iAny (pVar 0)) t_law_back_C0 tYesP e_law_back_C0))
  (pSeq (pExpr (pReverse 1))
  (pRet (pVar 1))))
noncomputable def fn_law_back : List PyData → Option Sl := fnB 1 2 g_law_back
noncomputable def g_law_turns : PSv := (pSeq (pIfS (isB (pBin pEq false (pBin pMod false (pVar 0) (pC (.int 9))) (pC (.int 8))))
  (pRet (pBin pSub false (pBin pMod false (pBin pFdiv false (pVar 0) (pC (.int 9))) (pBin pMul false (pC (.int 2)) (pBin pPow false (pC (.int 10)) (pC (.int 30))))) (pBin pPow false (pC (.int 10)) (pC (.int 30)))))
  pNext)
  (pRet (pBin pAdd false (pBin pSub false (pBin pMod false (pVar 0) (pC (.int 9))) (pC (.int 4))) (pCaS dInt (aCons false (pBin (sc2 (dCmp .gt)) false (pBin pMod false (pVar 0) (pC (.int 9))) (pC (.int 3))) aNil)))))
noncomputable def fn_law_turns : List PyData → Option Sl := fnB 1 1 g_law_turns
noncomputable def t_law_by_digits_L0 : PGv := (gNameP 5)
noncomputable def g_law_by_digits_L0 : PSv := (pSeq (pSet 6 (pBin pIx false (pVar 1) (pBin pMod false (pVar 4) (pCaS dLen (aCons false (pVar 1) aNil)))))
  (pSeq (pSet 4 (pBin pFdiv false (pVar 4) (pCaS dLen (aCons false (pVar 1) aNil))))
  (pSeq (pSet 7 (pBin pSub false (pBin pMod false (pVar 4) (pC (.int 7))) (pC (.int 3))))
  (pSeq (pSet 4 (pBin pFdiv false (pVar 4) (pC (.int 7))))
  (pSeq (pIfS (tAndP (isB (pBin pEq false (pVar 7) (pUn dNeg (pC (.int 3))))) (isB (pBin pEq false (pBin pMod false (pVar 4) (pC (.int 2))) (pC (.int 1)))))
  (pSeq (pSet 7 (pBin pSub false (pBin pMod false (pBin pFdiv false (pVar 4) (pC (.int 2))) (pBin pMul false (pC (.int 2)) (pBin pPow false (pC (.int 10)) (pC (.int 12))))) (pBin pPow false (pC (.int 10)) (pC (.int 12)))))
  (pSet 4 (pBin pFdiv false (pVar 4) (pBin pMul false (pC (.int 4)) (pBin pPow false (pC (.int 10)) (pC (.int 12)))))))
  (pIfS (isB (pBin pEq false (pVar 7) (pUn dNeg (pC (.int 3)))))
  (pSet 4 (pBin pFdiv false (pVar 4) (pC (.int 2))))
  pNext))
  (pExpr (pAppend 3 (pTup (dCons (pVar 6) (dCons (pVar 7) dNil))))))))))
noncomputable def g_law_by_digits : PSv := (pSeq (pSet 3 (pLst dNil))
  (pSeq (pSet 4 (pBin pFdiv false (pVar 0) (pBin pAdd false (pVar 2) (pC (.int 1)))))
  (pSeq (pFor (iRng1P (aCons false (pBin pMod false (pVar 0) (pBin pAdd false (pVar 2) (pC (.int 1)))) aNil)) t_law_by_digits_L0
  g_law_by_digits_L0)
  (pRet (pVar 3)))))
noncomputable def fn_law_by_digits : List PyData → Option Sl := fnB 3 8 g_law_by_digits
noncomputable def t_law_built_L0 : PGv := (gNameP 5)
noncomputable def g_law_built_L0 : PSv := (pSeq (pSet 6 (pCall fn_law_stir (aCons false (pBin pAdd false (pCall fn_law_at (aCons false (pVar 0) (aCons false (pVar 5) aNil))) (pVar 5)) (aCons false (pVar 5) aNil))))
  (pSeq (pSet 7 (pLst (dCons (pTup (dCons (pBin pIx false (pVar 2) (pBin pMod false (pBin pFdiv false (pVar 6) (pC (.int 7))) (pCaS dLen (aCons false (pVar 2) aNil)))) (dCons (pCall fn_law_turns (aCons false (pCall fn_law_stir (aCons false (pCall fn_law_at (aCons false (pVar 0) (aCons false (pVar 5) aNil))) (aCons false (pBin pAdd false (pC (.int 50)) (pVar 5)) aNil))) aNil)) dNil))) dNil)))
  (pSeq (pSet 8 (pLst (dCons (pTup (dCons (pBin pIx false (pVar 2) (pBin pMod false (pBin pFdiv false (pVar 6) (pC (.int 53))) (pCaS dLen (aCons false (pVar 2) aNil)))) (dCons (pBin pAdd false (pC (.int 1)) (pBin pMod false (pBin pFdiv false (pVar 6) (pC (.int 401))) (pC (.int 3)))) dNil))) dNil)))
  (pSeq (pSet 9 (pBin pMod false (pVar 6) (pC (.int 7))))
  (pSeq (pIfS (isB (pBin (sc2 (dCmp .gt)) false (pCaS dLen (aCons false (pVar 4) aNil)) (pBin pSub false (pBin pFdiv false (pVar 3) (pC (.int 2))) (pC (.int 4)))))
  (pSet 9 (pC (.int 0)))
  pNext)
  (pIfS (tOrP (isB (pBin pEq false (pVar 9) (pC (.int 1)))) (isB (pBin pEq false (pVar 9) (pC (.int 2)))))
  (pSet 4 (pBin pAdd false (pBin pAdd false (pBin pAdd false (pVar 4) (pVar 7)) (pCall fn_law_back (aCons false (pVar 4) aNil))) (pCall fn_law_back (aCons false (pVar 7) aNil))))
  (pIfS (isB (pBin pEq false (pVar 9) (pC (.int 3))))
  (pSet 4 (pBin pAdd false (pBin pAdd false (pVar 7) (pVar 4)) (pCall fn_law_back (aCons false (pVar 7) aNil))))
  (pIfS (isB (pBin pEq false (pVar 9) (pC (.int 4))))
  (pSeq (pSet 10 (pBin pMod false (pBin pFdiv false (pVar 6) (pC (.int 3001))) (pBin pAdd false (pCaS dLen (aCons false (pVar 4) aNil)) (pC (.int 1)))))
  (pSet 4 (pBin pAdd false (pBin pAdd false (pBin pAdd false (pBin pAdd false (pCut false (pVar 4) oNone (oSome (pVar 10))) (pVar 8)) (pLst (dCons (pTup (dCons (pBin pIx false (pBin pIx false (pVar 7) (pC (.int 0))) (pC (.int 0))) (dCons (pC (.int 0)) dNil))) dNil))) (pCall fn_law_back (aCons false (pVar 8) aNil))) (pCut false (pVar 4) (oSome (pVar 10)) oNone))))
  (pIfS (isB (pBin pEq false (pVar 9) (pC (.int 5))))
  (pSet 4 (pBin pAdd false (pBin pAdd false (pBin pAdd false (pBin pAdd false (pVar 4) (pVar 8)) (pVar 7)) (pCall fn_law_back (aCons false (pVar 8) aNil))) (pCall fn_law_back (aCons false (pVar 7) aNil))))
  (pSet 4 (pBin pAdd false (pVar 4) (pVar 7))))))))))))
noncomputable def g_law_built : PSv := (pSeq (pSet 4 (pLst dNil))
  (pSeq (pFor (iRng2P (aCons false (pVar 1) (aCons false (pBin pAdd false (pVar 1) (pC (.int 8))) aNil))) t_law_built_L0
  g_law_built_L0)
  (pRet (pCut false (pVar 4) oNone (oSome (pVar 3))))))
noncomputable def fn_law_built : List PyData → Option Sl := fnB 4 11 g_law_built
noncomputable def g_law_cord : PSv := (pSeq (pSet 4 (pCall fn_law_at (aCons false (pVar 0) (aCons false (pVar 1) aNil))))
  (pSeq (pIfS (tNotP (isB (pChain (dCmp .lt) (dCmp .lt) false false (pUn dNeg (pBin pPow false (pC (.int 10)) (pC (.int 18)))) (pVar 4) (pBin pPow false (pC (.int 10)) (pC (.int 18))))))
  (pRet (pCall fn_law_by_digits (aCons false (pVar 4) (aCons false (pVar 2) (aCons false (pVar 3) aNil)))))
  pNext)
  (pRet (pCall fn_law_built (aCons false (pVar 0) (aCons false (pBin pAdd false (pVar 1) (pC (.int 1))) (aCons false (pVar 2) (aCons false (pVar 3) aNil))))))))
noncomputable def fn_law_cord : List PyData → Option Sl := fnB 4 5 g_law_cord
noncomputable def t_law_short_L0 : PGv := (gTupP 2 (gConsP (gNameP 2) (gConsP (gNameP 3) gNilP)))
noncomputable def g_law_short_L0 : PSv := (pSeq (pIfS (tAndP (isB (pBin pNe false (pVar 1) (pLst dNil))) (isB (pBin pEq false (pBin pIx false (pBin pIx false (pVar 1) (pUn dNeg (pC (.int 1)))) (pC (.int 0))) (pVar 2))))
  (pSet 3 (pBin pAdd true (pVar 3) (pBin pIx false (pPop 1) (pC (.int 1)))))
  pNext)
  (pIfS (isB (pBin pNe false (pVar 3) (pC (.int 0))))
  (pExpr (pAppend 1 (pTup (dCons (pVar 2) (dCons (pVar 3) dNil)))))
  pNext))
noncomputable def g_law_short : PSv := (pSeq (pSet 1 (pLst dNil))
  (pSeq (pFor (iAny (pVar 0)) t_law_short_L0
  g_law_short_L0)
  (pRet (pVar 1))))
noncomputable def fn_law_short : List PyData → Option Sl := fnB 1 4 g_law_short
noncomputable def t_law_one_move_L0 : PGv := (gTupP 2 (gConsP (gNameP 3) (gConsP (gNameP 4) gNilP)))
noncomputable def g_law_one_move_L0 : PSv := (pIfS (tAndP (isB (pBin pEq false (pBin pIx false (pVar 1) (pC (.int 0))) (pC (.str "turn")))) (isB (pBin pEq false (pVar 3) (pBin pIx false (pVar 1) (pC (.int 1))))))
  (pExpr (pAppend 2 (pTup (dCons (pVar 3) (dCons (pBin pSub false (pC (.int 0)) (pVar 4)) dNil)))))
  (pIfS (tAndP (isB (pBin pEq false (pBin pIx false (pVar 1) (pC (.int 0))) (pC (.str "change")))) (isB (pBin (pIn false) false (pVar 3) (pCutT false (pVar 1) (oSome (pC (.int 1))) oNone))))
  (pExpr (pAppend 2 (pTup (dCons (pBin pIx false (pVar 1) (pBin pAdd false (pC (.int 1)) (pCaS dInt (aCons false (pBin pEq false (pVar 3) (pBin pIx false (pVar 1) (pC (.int 1)))) aNil)))) (dCons (pVar 4) dNil)))))
  (pIfS (tAndP (isB (pBin pEq false (pBin pIx false (pVar 1) (pC (.int 0))) (pC (.str "slide")))) (isB (pBin pEq false (pVar 3) (pBin pIx false (pVar 1) (pC (.int 1))))))
  (pSeq (pSet 5 (pLst (dCons (pTup (dCons (pVar 3) (dCons (pC (.int 1)) dNil))) (dCons (pTup (dCons (pBin pIx false (pVar 1) (pC (.int 2))) (dCons (pBin pIx false (pVar 1) (pC (.int 3))) dNil))) dNil))))
  (pSeq (pIfS (isB (pBin (sc2 (dCmp .lt)) false (pVar 4) (pC (.int 0))))
  (pSet 5 (pLst (dCons (pTup (dCons (pBin pIx false (pVar 1) (pC (.int 2))) (dCons (pBin pSub false (pC (.int 0)) (pBin pIx false (pVar 1) (pC (.int 3)))) dNil))) (dCons (pTup (dCons (pVar 3) (dCons (pUn dNeg (pC (.int 1))) dNil))) dNil))))
  pNext)
  (pSet 2 (pBin pAdd false (pVar 2) (pBin pMul false (pVar 5) (pCaS dAbs (aCons false (pVar 4) aNil)))))))
  (pExpr (pAppend 2 (pTup (dCons (pVar 3) (dCons (pVar 4) dNil))))))))
noncomputable def g_law_one_move : PSv := (pSeq (pSet 2 (pLst dNil))
  (pSeq (pFor (iAny (pVar 0)) t_law_one_move_L0
  g_law_one_move_L0)
  (pRet (pCall fn_law_short (aCons false (pVar 2) aNil)))))
noncomputable def fn_law_one_move : List PyData → Option Sl := fnB 2 6 g_law_one_move
noncomputable def t_law_moves_C1 : PGv := (gNameP 0)
noncomputable def e_law_moves_C1 : PEv := (pVar 0)
noncomputable def c_law_moves_C1 : PTv := (isB (pBin pNe false (pVar 0) (pVar 1)))
noncomputable def t_law_moves_L0 : PGv := (gNameP 7)
noncomputable def g_law_moves_L0 : PSv := (pSeq (pSet 8 (pVar 5))
  (pSeq (pIfS (tNotP (pTru (pVar 6)))
  (pSet 8 (pCall fn_law_stir (aCons false (pCall fn_law_at (aCons false (pVar 0) (aCons false (pBin pAdd false (pBin pAdd false (pVar 1) (pC (.int 1))) (pVar 7)) aNil))) (aCons false (pVar 7) aNil))))
  pNext)
  (pSeq (pSet 9 (pBin pIx false (pVar 2) (pBin pMod false (pBin pFdiv false (pVar 8) (pC (.int 4))) (pCaS dLen (aCons false (pVar 2) aNil)))))
  (pSeq (pSet 10 (pBin pIx false (pComp [none, some 9] (iAny (pVar 2)) t_law_moves_C1 c_law_moves_C1 e_law_moves_C1) (pBin pMod false (pBin pFdiv false (pVar 8) (pC (.int 32))) (pBin pSub false (pCaS dLen (aCons false (pVar 2) aNil)) (pC (.int 1))))))
  (pSeq (pIfS (isB (pBin pEq false (pBin pMod false (pVar 8) (pC (.int 4))) (pC (.int 0))))
  (pExpr (pAppend 4 (pTup (dCons (pC (.str "turn")) (dCons (pVar 9) dNil)))))
  (pIfS (isB (pBin pEq false (pBin pMod false (pVar 8) (pC (.int 4))) (pC (.int 1))))
  (pExpr (pAppend 4 (pTup (dCons (pC (.str "change")) (dCons (pVar 9) (dCons (pVar 10) dNil))))))
  (pExpr (pAppend 4 (pTup (dCons (pC (.str "slide")) (dCons (pVar 9) (dCons (pVar 10) (dCons (pBin pSub false (pBin pMod false (pBin pFdiv false (pVar 8) (pC (.int 256))) (pC (.int 5))) (pC (.int 2))) dNil)))))))))
  (pSet 5 (pBin pFdiv false (pVar 5) (pC (.int 1280)))))))))
noncomputable def g_law_moves : PSv := (pSeq (pSet 4 (pLst dNil))
  (pSeq (pSet 5 (pCall fn_law_at (aCons false (pVar 0) (aCons false (pVar 1) aNil))))
  (pSeq (pSet 6 (pUn dNot (pChain (dCmp .lt) (dCmp .lt) false false (pUn dNeg (pBin pPow false (pC (.int 10)) (pC (.int 18)))) (pVar 5) (pBin pPow false (pC (.int 10)) (pC (.int 18))))))
  (pSeq (pFor (iRng1P (aCons false (pVar 3) aNil)) t_law_moves_L0
  g_law_moves_L0)
  (pRet (pVar 4))))))
noncomputable def fn_law_moves : List PyData → Option Sl := fnB 4 11 g_law_moves
noncomputable def t_law_wide_C0 : PGv := (gTupP 2 (gConsP (gNameP 0) (gConsP (gNameP 1) gNilP)))
noncomputable def e_law_wide_C0 : PEv := (pIf (isB (pBin pEq false (pVar 0) (pBin pIx false (pVar 2) (pC (.int 1))))) (pBin pMul false (pC (.int 2)) (pCaS dAbs (aCons false (pVar 1) aNil))) (pC (.int 1)))
noncomputable def g_law_wide : PSv := (pRet (pCaS dSum (aCons false (pComp [none, none, some 1] (iAny (pVar 0)) t_law_wide_C0 tYesP e_law_wide_C0) aNil)))
noncomputable def fn_law_wide : List PyData → Option Sl := fnB 2 2 g_law_wide
noncomputable def t_law_back_due_L0 : PGv := (gNameP 2)
noncomputable def g_law_back_due_L0 : PSv := (pSeq (pIfS (isB (pBin pEq false (pBin pIx false (pVar 2) (pC (.int 0))) (pC (.str "slide"))))
  (pSet 2 (pBin pAddT false (pCutT false (pVar 2) oNone (oSome (pC (.int 3)))) (pTup (dCons (pBin pSub false (pC (.int 0)) (pBin pIx false (pVar 2) (pC (.int 3)))) dNil))))
  pNext)
  (pExpr (pAppend 1 (pVar 2))))
noncomputable def g_law_back_due : PSv := (pSeq (pSet 1 (pLst dNil))
  (pSeq (pFor (iRevP (pVar 0)) t_law_back_due_L0
  g_law_back_due_L0)
  (pRet (pVar 1))))
noncomputable def fn_law_back_due : List PyData → Option Sl := fnB 1 3 g_law_back_due
noncomputable def t_law_fits_L0 : PGv := (gNameP 2)
noncomputable def g_law_fits_L0 : PSv := (pSeq (pIfS (tAndP (isB (pBin pEq false (pBin pIx false (pVar 2) (pC (.int 0))) (pC (.str "slide")))) (isB (pBin (sc2 (dCmp .gt)) false (pCall fn_law_wide (aCons false (pVar 0) (aCons false (pVar 2) aNil))) (pC (.int 300)))))
  (pRet (pC (.bool false)))
  pNext)
  (pSet 0 (pCall fn_law_one_move (aCons false (pVar 0) (aCons false (pVar 2) aNil)))))
noncomputable def g_law_fits : PSv := (pSeq (pFor (iAny (pVar 1)) t_law_fits_L0
  g_law_fits_L0)
  (pRet (pC (.bool true))))
noncomputable def fn_law_fits : List PyData → Option Sl := fnB 2 3 g_law_fits
noncomputable def t_law_L0 : PGv := (gNameP 6)
noncomputable def g_law_L0 : PSv := (pIfS (pTru (pCall fn_law_fits (aCons false (pVar 4) (aCons false (pLst (dCons (pVar 6) dNil)) aNil))))
  (pSeq (pExpr (pAppend 5 (pVar 6)))
  (pSet 4 (pCall fn_law_one_move (aCons false (pVar 4) (aCons false (pVar 6) aNil)))))
  pNext)
noncomputable def t_law_C1 : PGv := (gNameP 0)
noncomputable def e_law_C1 : PEv := (pUn (dIsi .tuple) (pVar 0))
noncomputable def g_law : PSv := (pSeq (pSet 1 (pBin pAdd false (pC (.int 2)) (pBin pMod false (pCall fn_law_at (aCons false (pVar 0) (aCons false (pC (.int 1)) aNil))) (pC (.int 4)))))
  (pSeq (pIfS (isB (pBin pEq false (pBin pMod false (pBin pFdiv false (pCall fn_law_at (aCons false (pVar 0) (aCons false (pC (.int 1)) aNil))) (pC (.int 24))) (pC (.int 8))) (pC (.int 6))))
  (pSet 1 (pC (.int 26)))
  pNext)
  (pSeq (pSet 2 (pCall fn_law_nails (aCons false (pCall fn_law_at (aCons false (pVar 0) (aCons false (pC (.int 0)) aNil))) (aCons false (pVar 1) aNil))))
  (pSeq (pSet 3 (pCall fn_law_cord (aCons false (pVar 0) (aCons false (pC (.int 2)) (aCons false (pVar 2) (aCons false (pC (.int 12)) aNil))))))
  (pSeq (pSet 4 (pCall fn_law_short (aCons false (pVar 3) aNil)))
  (pSeq (pSet 5 (pLst dNil))
  (pSeq (pFor (iAny (pCall fn_law_moves (aCons false (pVar 0) (aCons false (pC (.int 11)) (aCons false (pVar 2) (aCons false (pBin pMod false (pBin pFdiv false (pCall fn_law_at (aCons false (pVar 0) (aCons false (pC (.int 1)) aNil))) (pC (.int 4))) (pC (.int 6))) aNil)))))) t_law_L0
  g_law_L0)
  (pSeq (pSet 7 (pLstOf (pVar 5)))
  (pSeq (pSet 8 (pCall fn_back_moves (aCons false (pVar 7) aNil)))
  (pSeq (pIfS (tOrP (tNotP (pTru (pUn (dIsi .list) (pVar 8)))) (tOrP (isB (pBin pNe false (pVar 8) (pCall fn_law_back_due (aCons false (pVar 5) aNil)))) (isB (pBin pNe false (pVar 7) (pVar 5)))))
  (pRet (pC (.bool false)))
  pNext)
  (pSeq (pIfS (tOrP (tNotP (pTru (pCaS dAll (aCons false (pComp [none] (iKeep (pVar 8)) t_law_C1 tYesP e_law_C1) aNil)))) (isB (pBin pNe false (pCall fn_back_moves (aCons false (pLstOf (pVar 8)) aNil)) (pVar 5))))
  (pRet (pC (.bool false)))
  pNext)
  (pSeq (pExpr (pAppend 8 (pTup (dCons (pC (.str "turn")) (dCons (pC (.str "a")) dNil)))))
  (pSeq (pIfS (isB (pBin pNe false (pVar 7) (pVar 5)))
  (pRet (pC (.bool false)))
  pNext)
  (pSeq (pSet 8 (pCall fn_back_moves (aCons false (pVar 7) aNil)))
  (pSeq (pIfS (isB (pBin pNe false (pVar 8) (pCall fn_law_back_due (aCons false (pVar 5) aNil))))
  (pRet (pC (.bool false)))
  pNext)
  (pSeq (pSet 9 (pCall fn_law_short (aCons false (pVar 3) aNil)))
  (pSeq (pIfS (tAndP (pTru (pCall fn_law_fits (aCons false (pVar 4) (aCons false (pVar 8) aNil)))) (isB (pBin pNe false (pCall fn_moved (aCons false (pCall fn_moved (aCons false (pLstOf (pVar 3)) (aCons false (pVar 5) aNil))) (aCons false (pVar 8) aNil))) (pVar 9))))
  (pRet (pC (.bool false)))
  pNext)
  (pSeq (pIfS (tNotP (pTru (pCall fn_law_fits (aCons false (pVar 9) (aCons false (pVar 8) aNil)))))
  (pRet (pC (.bool true)))
  pNext)
  (pSeq (pSet 10 (pCall fn_moved (aCons false (pLstOf (pVar 3)) (aCons false (pVar 8) aNil))))
  (pRet (pOrV (pUn dNot (pCall fn_law_fits (aCons false (pVar 10) (aCons false (pVar 5) aNil)))) (pBin pEq false (pCall fn_moved (aCons false (pVar 10) (aCons false (pVar 5) aNil))) (pVar 9)))))))))))))))))))))))
noncomputable def fn_law : List PyData → Option Sl := fnB 1 11 g_law
end Nhk72
namespace Nhk72
open PySem L2 Nh PL
noncomputable def top (i : Nat) : Stmt := PySem.Challenge.pw_nailhang_k72_there_and_back.main.body.getD i (.Pass ⟨0, 0, 0, 0⟩)
section
variable {P : Program} {w : World} {K : PySem.W.Frag} {mg : Str → Option Value} {base : Heap}
noncomputable abbrev s_is_nail : Stmt := top 6
theorem sc_is_nail : FnScope ["thing"] ["thing"] (defScope s_is_nail) := ⟨rfl, rfl, rfl, by decide +kernel, rfl, by decide +kernel, by decide +kernel⟩
theorem ok_is_nail (D : Def K mg "is_nail" s_is_nail ["thing"]) (B : Bn mg)  : Own P w K mg base 1 "is_nail" ["thing"] (spP K fn_is_nail) := by
  delta fn_is_nail
  refine ownP (g := g_is_nail) D sc_is_nail rfl rfl (by decide) fun f cdv A outer s H E hr => ?_
  delta g_is_nail
  exact (xss_one (xs_ret (xe_and (xe_isi .str (by rfl) (by exact B.isinstance) (xe_var 0) (by rfl) (by exact B.str) PyProof.Rows.boot_str) (xe_and (xe_eq hr.units (xe_len (by rfl) (by exact B.len) (xa_cons (xe_var 0) xa_nil)) xe_int) (xe_one (xe_ch .le .le xe_str (xe_var 0) xe_str))))))
noncomputable abbrev s_is_whole : Stmt := top 7
theorem sc_is_whole : FnScope ["thing"] ["thing"] (defScope s_is_whole) := ⟨rfl, rfl, rfl, by decide +kernel, rfl, by decide +kernel, by decide +kernel⟩
theorem ok_is_whole (D : Def K mg "is_whole" s_is_whole ["thing"]) (B : Bn mg)  : Own P w K mg base 1 "is_whole" ["thing"] (spP K fn_is_whole) := by
  delta fn_is_whole
  refine ownP (g := g_is_whole) D sc_is_whole rfl rfl (by decide) fun f cdv A outer s H E hr => ?_
  delta g_is_whole
  exact (xss_one (xs_ret (xe_and (xe_isi .int (by rfl) (by exact B.isinstance) (xe_var 0) (by rfl) (by exact B.int) PyProof.Rows.boot_int) (xe_one (xe_not (xe_isi .bool (by rfl) (by exact B.isinstance) (xe_var 0) (by rfl) (by exact B.bool) PyProof.Rows.boot_bool))))))
noncomputable abbrev s_short_form : Stmt := top 8
theorem sc_short_form : FnScope ["cord", "runs", "nail", "turns", "total"] ["cord"] (defScope s_short_form) := ⟨rfl, rfl, rfl, by decide +kernel, rfl, by decide +kernel, by decide +kernel⟩
theorem ok_short_form (D : Def K mg "short_form" s_short_form ["cord"]) (B : Bn mg)  : Own P w K mg base 1 "short_form" ["cord"] (spP K fn_short_form) := by
  delta fn_short_form
  refine ownP (g := g_short_form) D sc_short_form rfl rfl (by decide) fun f cdv A outer s H E hr => ?_
  delta g_short_form
  exact (xss_cons (xs_set 1 sc_short_form.nd (xe_lst xd_nil))
  (xss_cons (xs_for PassesOwn.never (by rfl) (xi_any (xe_var 0)) (by delta t_short_form_L0; exact (xg_tup (by rfl) (xgs_cons (xg_name 2 sc_short_form.nd) (xgs_cons (xg_name 3 sc_short_form.nd) xgs_nil))))
  (by delta g_short_form_L0; exact (xss_cons (xs_set 4 sc_short_form.nd (xe_var 3))
  (xss_cons (xs_if (xt_w (xw_and (xt_tru (xe_var 1)) (xw_and1 (xt_eq hr.units (xe_ix (xe_ix (xe_var 1) (xe_neg xe_int)) xe_int) (xe_var 2)))))
  (xss_one (xs_set 4 sc_short_form.nd (xe_add (xe_ix (xe_pop 1) xe_int) (xe_var 3))))
  xss_nil)
  (xss_one (xs_if (xt_ne hr.units (xe_var 4) xe_int)
  (xss_one (xs_expr (xe_append 1 (xe_tup (xd_cons (xe_var 2) (xd_cons (xe_var 4) xd_nil))))))
  xss_nil))))))
  (xss_one (xs_ret (xe_var 1)))))
noncomputable abbrev s_contrary : Stmt := top 9
theorem sc_contrary : FnScope ["cord"] ["cord"] (defScope s_contrary) := ⟨rfl, rfl, rfl, by decide +kernel, rfl, by decide +kernel, by decide +kernel⟩
theorem ok_contrary (D : Def K mg "contrary" s_contrary ["cord"]) (B : Bn mg)  : Own P w K mg base 1 "contrary" ["cord"] (spP K fn_contrary) := by
  delta fn_contrary
  refine ownP (g := g_contrary) D sc_contrary rfl rfl (by decide) fun f cdv A outer s H E hr => ?_
  delta g_contrary
  exact (xss_one (xs_ret (xe_comp0 (N := ["nail", "turns"]) (js := [none, none]) compClosed (by rfl) (xi_rev (by rfl) (by exact B.reversed) (xe_var 0)) (fun _ _ _ _ => (by delta t_contrary_C0; exact (xg_tup (by rfl) (xgs_cons (xg_name 0 (show (["nail", "turns"] : List Str).Nodup by decide +kernel)) (xgs_cons (xg_name 1 (show (["nail", "turns"] : List Str).Nodup by decide +kernel)) xgs_nil))))) (fun _ _ _ _ => (by delta e_contrary_C0; exact (xe_tup (xd_cons (xe_var 0) (xd_cons (xe_neg (xe_var 1)) xd_nil))))))))
noncomputable abbrev s_repeated : Stmt := top 10
theorem sc_repeated : FnScope ["cord", "times"] ["cord", "times"] (defScope s_repeated) := ⟨rfl, rfl, rfl, by decide +kernel, rfl, by decide +kernel, by decide +kernel⟩
theorem ok_repeated (D : Def K mg "repeated" s_repeated ["cord", "times"]) (B : Bn mg) (D_contrary : Own P w K mg base 1 "contrary" ["cord"] (spP K fn_contrary)) : Own P w K mg base 2 "repeated" ["cord", "times"] (spP K fn_repeated) := by
  delta fn_repeated
  refine ownP (g := g_repeated) D sc_repeated rfl rfl (by decide) fun f cdv A outer s H E hr => ?_
  delta g_repeated
  exact (xss_one (xs_ret (xe_mul (xe_if (xt_cm .lt (xe_var 1) xe_int) (xe_own D_contrary (hr.mono (by decide)) (by rfl) (xa_cons (xe_var 0) xa_nil)) (xe_var 0)) (xe_abs (by rfl) (by exact B.abs) (xa_cons (xe_var 1) xa_nil)))))
noncomputable abbrev s_are_two_nails : Stmt := top 12
theorem sc_are_two_nails : FnScope ["one", "other"] ["one", "other"] (defScope s_are_two_nails) := ⟨rfl, rfl, rfl, by decide +kernel, rfl, by decide +kernel, by decide +kernel⟩
theorem ok_are_two_nails (D : Def K mg "are_two_nails" s_are_two_nails ["one", "other"]) (B : Bn mg) (D_is_nail : Own P w K mg base 1 "is_nail" ["thing"] (spP K fn_is_nail)) : Own P w K mg base 2 "are_two_nails" ["one", "other"] (spP K fn_are_two_nails) := by
  delta fn_are_two_nails
  refine ownP (g := g_are_two_nails) D sc_are_two_nails rfl rfl (by decide) fun f cdv A outer s H E hr => ?_
  delta g_are_two_nails
  exact (xss_one (xs_ret (xe_and (xe_own D_is_nail (hr.mono (by decide)) (by rfl) (xa_cons (xe_var 0) xa_nil)) (xe_and (xe_own D_is_nail (hr.mono (by decide)) (by rfl) (xa_cons (xe_var 1) xa_nil)) (xe_one (xe_ne hr.units (xe_var 0) (xe_var 1)))))))
noncomputable abbrev s_is_move : Stmt := top 13
theorem sc_is_move : FnScope ["thing"] ["thing"] (defScope s_is_move) := ⟨rfl, rfl, rfl, by decide +kernel, rfl, by decide +kernel, by decide +kernel⟩
theorem ok_is_move (D : Def K mg "is_move" s_is_move ["thing"]) (B : Bn mg) (D_is_nail : Own P w K mg base 1 "is_nail" ["thing"] (spP K fn_is_nail)) (D_are_two_nails : Own P w K mg base 2 "are_two_nails" ["one", "other"] (spP K fn_are_two_nails)) (D_is_whole : Own P w K mg base 1 "is_whole" ["thing"] (spP K fn_is_whole)) : Own P w K mg base 3 "is_move" ["thing"] (spP K fn_is_move) := by
  delta fn_is_move
  refine ownP (g := g_is_move) D sc_is_move rfl rfl (by decide) fun f cdv A outer s H E hr => ?_
  delta g_is_move
  exact (xss_cons (xs_if (xt_w (xw_or (xt_not (xt_tru (xe_isi .tuple (by rfl) (by exact B.isinstance) (xe_var 0) (by rfl) (by exact B.tuple) PyProof.Rows.boot_tuple))) (xw_or1 (xt_eq hr.units (xe_len (by rfl) (by exact B.len) (xa_cons (xe_var 0) xa_nil)) xe_int))))
  (xss_one (xs_ret xe_bl))
  xss_nil)
  (xss_cons (xs_if (xt_eq hr.units (xe_ix (xe_var 0) xe_int) xe_str)
  (xss_one (xs_ret (xe_and (xe_eq hr.units (xe_len (by rfl) (by exact B.len) (xa_cons (xe_var 0) xa_nil)) xe_int) (xe_one (xe_own D_is_nail (hr.mono (by decide)) (by rfl) (xa_cons (xe_ix (xe_var 0) xe_int) xa_nil))))))
  xss_nil)
  (xss_cons (xs_if (xt_eq hr.units (xe_ix (xe_var 0) xe_int) xe_str)
  (xss_one (xs_ret (xe_and (xe_eq hr.units (xe_len (by rfl) (by exact B.len) (xa_cons (xe_var 0) xa_nil)) xe_int) (xe_one (xe_own D_are_two_nails (hr.mono (by decide)) (by rfl) (xa_cons (xe_ix (xe_var 0) xe_int) (xa_cons (xe_ix (xe_var 0) xe_int) xa_nil)))))))
  xss_nil)
  (xss_cons (xs_if (xt_eq hr.units (xe_ix (xe_var 0) xe_int) xe_str)
  (xss_one (xs_ret (xe_and (xe_eq hr.units (xe_len (by rfl) (by exact B.len) (xa_cons (xe_var 0) xa_nil)) xe_int) (xe_and (xe_own D_are_two_nails (hr.mono (by decide)) (by rfl) (xa_cons (xe_ix (xe_var 0) xe_int) (xa_cons (xe_ix (xe_var 0) xe_int) xa_nil))) (xe_one (xe_own D_is_whole (hr.mono (by decide)) (by rfl) (xa_cons (xe_ix (xe_var 0) xe_int) xa_nil)))))))
  xss_nil)
  (xss_one (xs_ret xe_bl))))))
noncomputable abbrev s_check_moves : Stmt := top 14
theorem sc_check_moves : FnScope ["moves", "move"] ["moves"] (defScope s_check_moves) := ⟨rfl, rfl, rfl, by decide +kernel, rfl, by decide +kernel, by decide +kernel⟩
theorem ok_check_moves (D : Def K mg "check_moves" s_check_moves ["moves"]) (B : Bn mg) (D_is_move : Own P w K mg base 3 "is_move" ["thing"] (spP K fn_is_move)) : Own P w K mg base 4 "check_moves" ["moves"] (spP K fn_check_moves) := by
  delta fn_check_moves
  refine ownP (g := g_check_moves) D sc_check_moves rfl rfl (by decide) fun f cdv A outer s H E hr => ?_
  delta g_check_moves
  exact (xss_cons (xs_if (xt_not (xt_tru (xe_isi .list (by rfl) (by exact B.isinstance) (xe_var 0) (by rfl) (by exact B.list) PyProof.Rows.boot_list)))
  (xss_one xs_never)
  xss_nil)
  (xss_one (xs_for PassesOwn.never (by rfl) (xi_any (xe_var 0)) (by delta t_check_moves_L0; exact (xg_name 1 sc_check_moves.nd))
  (by delta g_check_moves_L0; exact (xss_one (xs_if (xt_not (xt_tru (xe_own D_is_move (hr.mono (by decide)) (by rfl) (xa_cons (xe_var 1) xa_nil))))
  (xss_one xs_never)
  xss_nil))))))
noncomputable abbrev s_pieces_beside : Stmt := top 15
theorem sc_pieces_beside : FnScope ["runs", "move"] ["runs", "move"] (defScope s_pieces_beside) := ⟨rfl, rfl, rfl, by decide +kernel, rfl, by decide +kernel, by decide +kernel⟩
theorem ok_pieces_beside (D : Def K mg "pieces_beside" s_pieces_beside ["runs", "move"]) (B : Bn mg)  : Own P w K mg base 1 "pieces_beside" ["runs", "move"] (spP K fn_pieces_beside) := by
  delta fn_pieces_beside
  refine ownP (g := g_pieces_beside) D sc_pieces_beside rfl rfl (by decide) fun f cdv A outer s H E hr => ?_
  delta g_pieces_beside
  exact (xss_cons (xs_if (xt_w (xw_or (xt_ne hr.units (xe_ix (xe_var 1) xe_int) xe_str) (xw_or1 (xt_eq hr.units (xe_ix (xe_var 1) xe_int) xe_int))))
  (xss_one (xs_ret (xe_len (by rfl) (by exact B.len) (xa_cons (xe_var 0) xa_nil))))
  xss_nil)
  (xss_one (xs_ret (xe_sum (by rfl) (by rfl) (by exact B.sum) (xa_cons (xe_comp0 (N := ["nail", "turns", "move"]) (js := [none, none, some 1]) compOpen (by rfl) (xi_any (xe_var 0)) (fun _ _ _ _ => (by delta t_pieces_beside_C0; exact (xg_tup (by rfl) (xgs_cons (xg_name 0 (show (["nail", "turns", "move"] : List Str).Nodup by decide +kernel)) (xgs_cons (xg_name 1 (show (["nail", "turns", "move"] : List Str).Nodup by decide +kernel)) xgs_nil))))) (fun _ _ _ _ => (by delta e_pieces_beside_C0; exact (xe_if (xt_eq hr.units (xe_var 0) (xe_ix (xe_var 2) xe_int)) (xe_mul xe_int (xe_abs (by rfl) (by exact B.abs) (xa_cons (xe_var 1) xa_nil))) xe_int)))) xa_nil)))))
noncomputable abbrev s_turned : Stmt := top 16
theorem sc_turned : FnScope ["runs", "turning"] ["runs", "turning"] (defScope s_turned) := ⟨rfl, rfl, rfl, by decide +kernel, rfl, by decide +kernel, by decide +kernel⟩
theorem ok_turned (D : Def K mg "turned" s_turned ["runs", "turning"]) (B : Bn mg)  : Own P w K mg base 1 "turned" ["runs", "turning"] (spP K fn_turned) := by
  delta fn_turned
  refine ownP (g := g_turned) D sc_turned rfl rfl (by decide) fun f cdv A outer s H E hr => ?_
  delta g_turned
  exact (xss_one (xs_ret (xe_comp0 (N := ["nail", "turns", "turning"]) (js := [none, none, some 1]) compOpen (by rfl) (xi_any (xe_var 0)) (fun _ _ _ _ => (by delta t_turned_C0; exact (xg_tup (by rfl) (xgs_cons (xg_name 0 (show (["nail", "turns", "turning"] : List Str).Nodup by decide +kernel)) (xgs_cons (xg_name 1 (show (["nail", "turns", "turning"] : List Str).Nodup by decide +kernel)) xgs_nil))))) (fun _ _ _ _ => (by delta e_turned_C0; exact (xe_tup (xd_cons (xe_var 0) (xd_cons (xe_if (xt_eq hr.units (xe_var 0) (xe_var 2)) (xe_neg (xe_var 1)) (xe_var 1)) xd_nil))))))))
noncomputable abbrev s_changed : Stmt := top 17
theorem sc_changed : FnScope ["runs", "one", "other", "names"] ["runs", "one", "other"] (defScope s_changed) := ⟨rfl, rfl, rfl, by decide +kernel, rfl, by decide +kernel, by decide +kernel⟩
theorem ok_changed (D : Def K mg "changed" s_changed ["runs", "one", "other"]) (B : Bn mg)  : Own P w K mg base 1 "changed" ["runs", "one", "other"] (spP K fn_changed) := by
  delta fn_changed
  refine ownP (g := g_changed) D sc_changed rfl rfl (by decide) fun f cdv A outer s H E hr => ?_
  delta g_changed
  exact (xss_cons (xs_set 3 sc_changed.nd (xe_disp (xp_cons (xe_var 1) (xe_var 2) (xp_cons (xe_var 2) (xe_var 1) xp_nil))))
  (xss_one (xs_ret (xe_comp0 (N := ["nail", "turns", "names"]) (js := [none, none, some 3]) compOpen (by rfl) (xi_any (xe_var 0)) (fun _ _ _ _ => (by delta t_changed_C0; exact (xg_tup (by rfl) (xgs_cons (xg_name 0 (show (["nail", "turns", "names"] : List Str).Nodup by decide +kernel)) (xgs_cons (xg_name 1 (show (["nail", "turns", "names"] : List Str).Nodup by decide +kernel)) xgs_nil))))) (fun _ _ _ _ => (by delta e_changed_C0; exact (xe_tup (xd_cons (xe_get2 hr.units (xe_var 2) (xe_var 0) (xe_var 0)) (xd_cons (xe_var 1) xd_nil)))))))))
noncomputable abbrev s_slid : Stmt := top 18
theorem sc_slid : FnScope ["runs", "sliding", "other", "times", "cord", "nail", "turns"] ["runs", "sliding", "other", "times"] (defScope s_slid) := ⟨rfl, rfl, rfl, by decide +kernel, rfl, by decide +kernel, by decide +kernel⟩
theorem ok_slid (D : Def K mg "slid" s_slid ["runs", "sliding", "other", "times"]) (B : Bn mg) (D_repeated : Own P w K mg base 2 "repeated" ["cord", "times"] (spP K fn_repeated)) (D_short_form : Own P w K mg base 1 "short_form" ["cord"] (spP K fn_short_form)) : Own P w K mg base 3 "slid" ["runs", "sliding", "other", "times"] (spP K fn_slid) := by
  delta fn_slid
  refine ownP (g := g_slid) D sc_slid rfl rfl (by decide) fun f cdv A outer s H E hr => ?_
  delta g_slid
  exact (xss_cons (xs_set 4 sc_slid.nd (xe_lst xd_nil))
  (xss_cons (xs_for PassesOwn.never (by rfl) (xi_any (xe_var 0)) (by delta t_slid_L0; exact (xg_tup (by rfl) (xgs_cons (xg_name 5 sc_slid.nd) (xgs_cons (xg_name 6 sc_slid.nd) xgs_nil))))
  (by delta g_slid_L0; exact (xss_one (xs_if (xt_eq hr.units (xe_var 5) (xe_var 1))
  (xss_one (xs_expr (xe_extend 4 (xe_own D_repeated (hr.mono (by decide)) (by rfl) (xa_cons (xe_lst (xd_cons (xe_tup (xd_cons (xe_var 5) (xd_cons xe_int xd_nil))) (xd_cons (xe_tup (xd_cons (xe_var 2) (xd_cons (xe_var 3) xd_nil))) xd_nil))) (xa_cons (xe_var 6) xa_nil))))))
  (xss_one (xs_expr (xe_append 4 (xe_tup (xd_cons (xe_var 5) (xd_cons (xe_var 6) xd_nil))))))))))
  (xss_one (xs_ret (xe_own D_short_form (hr.mono (by decide)) (by rfl) (xa_cons (xe_var 4) xa_nil))))))
noncomputable abbrev s_moved_once : Stmt := top 19
theorem sc_moved_once : FnScope ["runs", "move"] ["runs", "move"] (defScope s_moved_once) := ⟨rfl, rfl, rfl, by decide +kernel, rfl, by decide +kernel, by decide +kernel⟩
theorem ok_moved_once (D : Def K mg "moved_once" s_moved_once ["runs", "move"]) (B : Bn mg) {t_LONGEST : Tok} (G_LONGEST : mg "LONGEST" = some (.int 4000 t_LONGEST)) (D_pieces_beside : Own P w K mg base 1 "pieces_beside" ["runs", "move"] (spP K fn_pieces_beside)) (D_turned : Own P w K mg base 1 "turned" ["runs", "turning"] (spP K fn_turned)) (D_changed : Own P w K mg base 1 "changed" ["runs", "one", "other"] (spP K fn_changed)) (D_slid : Own P w K mg base 3 "slid" ["runs", "sliding", "other", "times"] (spP K fn_slid)) : Own P w K mg base 4 "moved_once" ["runs", "move"] (spP K fn_moved_once) := by
  delta fn_moved_once
  refine ownP (g := g_moved_once) D sc_moved_once rfl rfl (by decide) fun f cdv A outer s H E hr => ?_
  delta g_moved_once
  exact (xss_cons (xs_if (xt_cm .gt (xe_own D_pieces_beside (hr.mono (by decide)) (by rfl) (xa_cons (xe_var 0) (xa_cons (xe_var 1) xa_nil))) (xe_gint (by rfl) (by exact G_LONGEST)))
  (xss_one xs_never)
  xss_nil)
  (xss_cons (xs_if (xt_eq hr.units (xe_ix (xe_var 1) xe_int) xe_str)
  (xss_one (xs_ret (xe_own D_turned (hr.mono (by decide)) (by rfl) (xa_cons (xe_var 0) (xa_cons (xe_ix (xe_var 1) xe_int) xa_nil)))))
  xss_nil)
  (xss_cons (xs_if (xt_eq hr.units (xe_ix (xe_var 1) xe_int) xe_str)
  (xss_one (xs_ret (xe_own D_changed (hr.mono (by decide)) (by rfl) (xa_cons (xe_var 0) (xa_cons (xe_ix (xe_var 1) xe_int) (xa_cons (xe_ix (xe_var 1) xe_int) xa_nil))))))
  xss_nil)
  (xss_cons (xs_if (xt_eq hr.units (xe_ix (xe_var 1) xe_int) xe_int)
  (xss_one (xs_ret (xe_var 0)))
  xss_nil)
  (xss_one (xs_ret (xe_own D_slid (hr.mono (by decide)) (by rfl) (xa_cons (xe_var 0) (xa_cons (xe_ix (xe_var 1) xe_int) (xa_cons (xe_ix (xe_var 1) xe_int) (xa_cons (xe_ix (xe_var 1) xe_int) xa_nil)))))))))))
noncomputable abbrev s_moved : Stmt := top 20
theorem sc_moved : FnScope ["cord", "moves", "runs", "move"] ["cord", "moves"] (defScope s_moved) := ⟨rfl, rfl, rfl, by decide +kernel, rfl, by decide +kernel, by decide +kernel⟩
theorem ok_moved (D : Def K mg "moved" s_moved ["cord", "moves"]) (B : Bn mg) (D_check_moves : Own P w K mg base 4 "check_moves" ["moves"] (spP K fn_check_moves)) (D_short_form : Own P w K mg base 1 "short_form" ["cord"] (spP K fn_short_form)) (D_moved_once : Own P w K mg base 4 "moved_once" ["runs", "move"] (spP K fn_moved_once)) : Own P w K mg base 5 "moved" ["cord", "moves"] (spP K fn_moved) := by
  delta fn_moved
  refine ownP (g := g_moved) D sc_moved rfl rfl (by decide) fun f cdv A outer s H E hr => ?_
  delta g_moved
  exact (xss_cons (xs_expr (xe_own D_check_moves (hr.mono (by decide)) (by rfl) (xa_cons (xe_var 1) xa_nil)))
  (xss_cons (xs_set 2 sc_moved.nd (xe_own D_short_form (hr.mono (by decide)) (by rfl) (xa_cons (xe_var 0) xa_nil)))
  (xss_cons (xs_for PassesOwn.never (by rfl) (xi_any (xe_var 1)) (by delta t_moved_L0; exact (xg_name 3 sc_moved.nd))
  (by delta g_moved_L0; exact (xss_one (xs_set 2 sc_moved.nd (xe_own D_moved_once (hr.mono (by decide)) (by rfl) (xa_cons (xe_var 2) (xa_cons (xe_var 3) xa_nil)))))))
  (xss_one (xs_ret (xe_var 2))))))
noncomputable abbrev s_back_move : Stmt := top 21
theorem sc_back_move : FnScope ["move"] ["move"] (defScope s_back_move) := ⟨rfl, rfl, rfl, by decide +kernel, rfl, by decide +kernel, by decide +kernel⟩
theorem ok_back_move (D : Def K mg "back_move" s_back_move ["move"]) (B : Bn mg)  : Own P w K mg base 1 "back_move" ["move"] (spP K fn_back_move) := by
  delta fn_back_move
  refine ownP (g := g_back_move) D sc_back_move rfl rfl (by decide) fun f cdv A outer s H E hr => ?_
  delta g_back_move
  exact (xss_cons (xs_if (xt_eq hr.units (xe_ix (xe_var 0) xe_int) xe_str)
  (xss_one (xs_ret (xe_tup (xd_cons xe_str (xd_cons (xe_ix (xe_var 0) xe_int) (xd_cons (xe_ix (xe_var 0) xe_int) (xd_cons (xe_neg (xe_ix (xe_var 0) xe_int)) xd_nil)))))))
  xss_nil)
  (xss_one (xs_ret (xe_var 0))))
noncomputable abbrev s_back_moves : Stmt := top 22
theorem sc_back_moves : FnScope ["moves"] ["moves"] (defScope s_back_moves) := ⟨rfl, rfl, rfl, by decide +kernel, rfl, by decide +kernel, by decide +kernel⟩
theorem ok_back_moves (D : Def K mg "back_moves" s_back_moves ["moves"]) (B : Bn mg) (D_check_moves : Own P w K mg base 4 "check_moves" ["moves"] (spP K fn_check_moves)) (D_back_move : Own P w K mg base 1 "back_move" ["move"] (spP K fn_back_move)) : Own P w K mg base 5 "back_moves" ["moves"] (spP K fn_back_moves) := by
  delta fn_back_moves
  refine ownP (g := g_back_moves) D sc_back_moves rfl rfl (by decide) fun f cdv A outer s H E hr => ?_
  delta g_back_moves
  exact (xss_cons (xs_expr (xe_own D_check_moves (hr.mono (by decide)) (by rfl) (xa_cons (xe_var 0) xa_nil)))
  (xss_one (xs_ret (xe_comp0 (N := ["move"]) (js := [none]) compClosed (by rfl) (xi_rev (by rfl) (by exact B.reversed) (xe_var 0)) (fun _ _ _ _ => (by delta t_back_moves_C0; exact (xg_name 0 (show (["move"] : List Str).Nodup by decide +kernel)))) (fun _ _ _ _ => (by delta e_back_moves_C0; exact (xe_own D_back_move (hr.mono (by decide)) (by rfl) (xa_cons (xe_var 0) xa_nil))))))))
noncomputable abbrev s_law_at : Stmt := top 24
theorem sc_law_at : FnScope ["_law_script", "_law_k"] ["_law_script", "_law_k"] (defScope s_law_at) := ⟨rfl, rfl, rfl, by decide +kernel, rfl, by decide +kernel, by decide +kernel⟩
theorem ok_law_at (D : Def K mg "_law_at" s_law_at ["_law_script", "_law_k"]) (B : Bn mg)  : Own P w K mg base 1 "_law_at" ["_law_script", "_law_k"] (spP K fn_law_at) := by
  delta fn_law_at
  refine ownP (g := g_law_at) D sc_law_at rfl rfl (by decide) fun f cdv A outer s H E hr => ?_
  delta g_law_at
  exact (xss_cons (xs_if (xt_cm .lt (xe_var 1) (xe_len (by rfl) (by exact B.len) (xa_cons (xe_var 0) xa_nil)))
  (xss_one (xs_ret (xe_ix (xe_var 0) (xe_var 1))))
  xss_nil)
  (xss_one (xs_ret xe_int)))
noncomputable abbrev s_law_stir : Stmt := top 25
theorem sc_law_stir : FnScope ["_law_cell", "_law_k", "_law_value"] ["_law_cell", "_law_k"] (defScope s_law_stir) := ⟨rfl, rfl, rfl, by decide +kernel, rfl, by decide +kernel, by decide +kernel⟩
theorem ok_law_stir (D : Def K mg "_law_stir" s_law_stir ["_law_cell", "_law_k"]) (B : Bn mg)  : Own P w K mg base 1 "_law_stir" ["_law_cell", "_law_k"] (spP K fn_law_stir) := by
  delta fn_law_stir
  refine ownP (g := g_law_stir) D sc_law_stir rfl rfl (by decide) fun f cdv A outer s H E hr => ?_
  delta g_law_stir
  exact (xss_cons (xs_set 2 sc_law_stir.nd (xe_mod (xe_add (xe_add (xe_add (xe_mod (xe_var 0) xe_int) (xe_mul xe_int (xe_var 1))) (xe_mul (xe_var 1) (xe_var 1))) xe_int) xe_int))
  (xss_cons (xs_set 2 sc_law_stir.nd (xe_mod (xe_mul (xe_var 2) (xe_var 2)) xe_int))
  (xss_one (xs_ret (xe_fdiv (xe_mod (xe_add (xe_mul (xe_var 2) xe_int) (xe_mul xe_int (xe_var 1))) xe_int) xe_int)))))
noncomputable abbrev s_law_nails : Stmt := top 26
theorem sc_law_nails : FnScope ["_law_cell", "_law_many", "_law_letters", "_law_step"] ["_law_cell", "_law_many"] (defScope s_law_nails) := ⟨rfl, rfl, rfl, by decide +kernel, rfl, by decide +kernel, by decide +kernel⟩
theorem ok_law_nails (D : Def K mg "_law_nails" s_law_nails ["_law_cell", "_law_many"]) (B : Bn mg)  : Own P w K mg base 1 "_law_nails" ["_law_cell", "_law_many"] (spP K fn_law_nails) := by
  delta fn_law_nails
  refine ownP (g := g_law_nails) D sc_law_nails rfl rfl (by decide) fun f cdv A outer s H E hr => ?_
  refine cut_consts 1 [1, 3, 5, 7, 9, 11, 15, 17, 19, 21, 23, 25] rfl rfl fun es hes => ?_
  delta g_law_nails
  exact (xss_cons (xs_set 2 sc_law_nails.nd xe_str)
  (xss_cons (xs_set 3 sc_law_nails.nd (xe_ix (xe_lst (xd_ints hes)) (xe_mod (xe_fdiv (xe_var 0) xe_int) xe_int)))
  (xss_one (xs_ret (xe_comp0 (N := ["_law_k", "_law_letters", "_law_cell", "_law_step"]) (js := [none, some 2, some 0, some 3]) compOpen (by rfl) (xi_range1 (by rfl) (by exact B.range) (xa_cons (xe_var 1) xa_nil)) (fun _ _ _ _ => (by delta t_law_nails_C0; exact (xg_name 0 (show (["_law_k", "_law_letters", "_law_cell", "_law_step"] : List Str).Nodup by decide +kernel)))) (fun _ _ _ _ => (by delta e_law_nails_C0; exact (xe_ix (xe_var 1) (xe_mod (xe_add (xe_var 2) (xe_mul (xe_var 0) (xe_var 3))) xe_int)))))))))
noncomputable abbrev s_law_back : Stmt := top 27
theorem sc_law_back : FnScope ["_law_cord_here", "_law_found"] ["_law_cord_here"] (defScope s_law_back) := ⟨rfl, rfl, rfl, by decide +kernel, rfl, by decide +kernel, by decide +kernel⟩
theorem ok_law_back (D : Def K mg "_law_back" s_law_back ["_law_cord_here"]) (B : Bn mg)  : Own P w K mg base 1 "_law_back" ["_law_cord_here"] (spP K fn_law_back) := by
  delta fn_law_back
  refine ownP (g := g_law_back) D sc_law_back rfl rfl (by decide) fun f cdv A outer s H E hr => ?_
  delta g_law_back
  exact (xss_cons (xs_setC0 1 sc_law_back.nd (N := ["_law_nail", "_law_turns_here"]) (js := [none, none]) compClosed (by rfl) (xi_any (xe_var 0)) (fun _ _ _ _ => (by delta t_law_back_C0; exact (xg_tup (by rfl) (xgs_cons (xg_name 0 (show (["_law_nail", "_law_turns_here"] : List Str).Nodup by decide +kernel)) (xgs_cons (xg_name 1 (show (["_law_nail", "_law_turns_here"] : List Str).Nodup by decide +kernel)) xgs_nil))))) (fun _ _ _ _ => (by delta e_law_back_C0; exact (xe_tup (xd_cons (xe_var 0) (xd_cons (xe_sub xe_int (xe_var 1)) xd_nil))))))
  (xss_cons (xs_expr (xe_reverse 1))
  (xss_one (xs_ret (xe_var 1)))))
noncomputable abbrev s_law_turns : Stmt := top 28
theorem sc_law_turns : FnScope ["_law_cell"] ["_law_cell"] (defScope s_law_turns) := ⟨rfl, rfl, rfl, by decide +kernel, rfl, by decide +kernel, by decide +kernel⟩
theorem ok_law_turns (D : Def K mg "_law_turns" s_law_turns ["_law_cell"]) (B : Bn mg)  : Own P w K mg base 1 "_law_turns" ["_law_cell"] (spP K fn_law_turns) := by
  delta fn_law_turns
  refine ownP (g := g_law_turns) D sc_law_turns rfl rfl (by decide) fun f cdv A outer s H E hr => ?_
  delta g_law_turns
  exact (xss_cons (xs_if (xt_eq hr.units (xe_mod (xe_var 0) xe_int) xe_int)
  (xss_one (xs_ret (xe_sub (xe_mod (xe_fdiv (xe_var 0) xe_int) (xe_mul xe_int (xe_pow xe_int xe_int))) (xe_pow xe_int xe_int))))
  xss_nil)
  (xss_one (xs_ret (xe_add (xe_sub (xe_mod (xe_var 0) xe_int) xe_int) (xe_int1 (by rfl) (by exact B.int) (xa_cons (xe_cm .gt (xe_mod (xe_var 0) xe_int) xe_int) xa_nil))))))
noncomputable abbrev s_law_by_digits : Stmt := top 29
theorem sc_law_by_digits : FnScope ["_law_cell", "_law_some", "_law_most", "_law_cord_here", "_law_rest", "_law_k", "_law_nail", "_law_turns_here"] ["_law_cell", "_law_some", "_law_most"] (defScope s_law_by_digits) := ⟨rfl, rfl, rfl, by decide +kernel, rfl, by decide +kernel, by decide +kernel⟩
theorem ok_law_by_digits (D : Def K mg "_law_by_digits" s_law_by_digits ["_law_cell", "_law_some", "_law_most"]) (B : Bn mg)  : Own P w K mg base 1 "_law_by_digits" ["_law_cell", "_law_some", "_law_most"] (spP K fn_law_by_digits) := by
  delta fn_law_by_digits
  refine ownP (g := g_law_by_digits) D sc_law_by_digits rfl rfl (by decide) fun f cdv A outer s H E hr => ?_
  delta g_law_by_digits
  exact (xss_cons (xs_set 3 sc_law_by_digits.nd (xe_lst xd_nil))
  (xss_cons (xs_set 4 sc_law_by_digits.nd (xe_fdiv (xe_var 0) (xe_add (xe_var 2) xe_int)))
  (xss_cons (xs_for PassesOwn.never (by rfl) (xi_range1 (by rfl) (by exact B.range) (xa_cons (xe_mod (xe_var 0) (xe_add (xe_var 2) xe_int)) xa_nil)) (by delta t_law_by_digits_L0; exact (xg_name 5 sc_law_by_digits.nd))
  (by delta g_law_by_digits_L0; exact (xss_cons (xs_set 6 sc_law_by_digits.nd (xe_ix (xe_var 1) (xe_mod (xe_var 4) (xe_len (by rfl) (by exact B.len) (xa_cons (xe_var 1) xa_nil)))))
  (xss_cons (xs_set 4 sc_law_by_digits.nd (xe_fdiv (xe_var 4) (xe_len (by rfl) (by exact B.len) (xa_cons (xe_var 1) xa_nil))))
  (xss_cons (xs_set 7 sc_law_by_digits.nd (xe_sub (xe_mod (xe_var 4) xe_int) xe_int))
  (xss_cons (xs_set 4 sc_law_by_digits.nd (xe_fdiv (xe_var 4) xe_int))
  (xss_cons (xs_if (xt_w (xw_and (xt_eq hr.units (xe_var 7) (xe_neg xe_int)) (xw_and1 (xt_eq hr.units (xe_mod (xe_var 4) xe_int) xe_int))))
  (xss_cons (xs_set 7 sc_law_by_digits.nd (xe_sub (xe_mod (xe_fdiv (xe_var 4) xe_int) (xe_mul xe_int (xe_pow xe_int xe_int))) (xe_pow xe_int xe_int)))
  (xss_one (xs_set 4 sc_law_by_digits.nd (xe_fdiv (xe_var 4) (xe_mul xe_int (xe_pow xe_int xe_int))))))
  (xss_one (xs_if (xt_eq hr.units (xe_var 7) (xe_neg xe_int))
  (xss_one (xs_set 4 sc_law_by_digits.nd (xe_fdiv (xe_var 4) xe_int)))
  xss_nil)))
  (xss_one (xs_expr (xe_append 3 (xe_tup (xd_cons (xe_var 6) (xd_cons (xe_var 7) xd_nil)))))))))))))
  (xss_one (xs_ret (xe_var 3))))))
noncomputable abbrev s_law_built : Stmt := top 30
theorem sc_law_built : FnScope ["_law_script", "_law_first", "_law_some", "_law_most", "_law_cord_here", "_law_k", "_law_cell", "_law_piece", "_law_other", "_law_way", "_law_at_here"] ["_law_script", "_law_first", "_law_some", "_law_most"] (defScope s_law_built) := ⟨rfl, rfl, rfl, by decide +kernel, rfl, by decide +kernel, by decide +kernel⟩
theorem ok_law_built (D : Def K mg "_law_built" s_law_built ["_law_script", "_law_first", "_law_some", "_law_most"]) (B : Bn mg) (D_law_at : Own P w K mg base 1 "_law_at" ["_law_script", "_law_k"] (spP K fn_law_at)) (D_law_stir : Own P w K mg base 1 "_law_stir" ["_law_cell", "_law_k"] (spP K fn_law_stir)) (D_law_turns : Own P w K mg base 1 "_law_turns" ["_law_cell"] (spP K fn_law_turns)) (D_law_back : Own P w K mg base 1 "_law_back" ["_law_cord_here"] (spP K fn_law_back)) : Own P w K mg base 2 "_law_built" ["_law_script", "_law_first", "_law_some", "_law_most"] (spP K fn_law_built) := by
  delta fn_law_built
  refine ownP (g := g_law_built) D sc_law_built rfl rfl (by decide) fun f cdv A outer s H E hr => ?_
  delta g_law_built
  exact (xss_cons (xs_set 4 sc_law_built.nd (xe_lst xd_nil))
  (xss_cons (xs_for PassesOwn.never (by rfl) (xi_range2 (by rfl) (by exact B.range) (xa_cons (xe_var 1) (xa_cons (xe_add (xe_var 1) xe_int) xa_nil))) (by delta t_law_built_L0; exact (xg_name 5 sc_law_built.nd))
  (by delta g_law_built_L0; exact (xss_cons (xs_set 6 sc_law_built.nd (xe_own D_law_stir (hr.mono (by decide)) (by rfl) (xa_cons (xe_add (xe_own D_law_at (hr.mono (by decide)) (by rfl) (xa_cons (xe_var 0) (xa_cons (xe_var 5) xa_nil))) (xe_var 5)) (xa_cons (xe_var 5) xa_nil))))
  (xss_cons (xs_set 7 sc_law_built.nd (xe_lst (xd_cons (xe_tup (xd_cons (xe_ix (xe_var 2) (xe_mod (xe_fdiv (xe_var 6) xe_int) (xe_len (by rfl) (by exact B.len) (xa_cons (xe_var 2) xa_nil)))) (xd_cons (xe_own D_law_turns (hr.mono (by decide)) (by rfl) (xa_cons (xe_own D_law_stir (hr.mono (by decide)) (by rfl) (xa_cons (xe_own D_law_at (hr.mono (by decide)) (by rfl) (xa_cons (xe_var 0) (xa_cons (xe_var 5) xa_nil))) (xa_cons (xe_add xe_int (xe_var 5)) xa_nil))) xa_nil)) xd_nil))) xd_nil)))
  (xss_cons (xs_set 8 sc_law_built.nd (xe_lst (xd_cons (xe_tup (xd_cons (xe_ix (xe_var 2) (xe_mod (xe_fdiv (xe_var 6) xe_int) (xe_len (by rfl) (by exact B.len) (xa_cons (xe_var 2) xa_nil)))) (xd_cons (xe_add xe_int (xe_mod (xe_fdiv (xe_var 6) xe_int) xe_int)) xd_nil))) xd_nil)))
  (xss_cons (xs_set 9 sc_law_built.nd (xe_mod (xe_var 6) xe_int))
  (xss_cons (xs_if (xt_cm .gt (xe_len (by rfl) (by exact B.len) (xa_cons (xe_var 4) xa_nil)) (xe_sub (xe_fdiv (xe_var 3) xe_int) xe_int))
  (xss_one (xs_set 9 sc_law_built.nd xe_int))
  xss_nil)
  (xss_one (xs_if (xt_w (xw_or (xt_eq hr.units (xe_var 9) xe_int) (xw_or1 (xt_eq hr.units (xe_var 9) xe_int))))
  (xss_one (xs_set 4 sc_law_built.nd (xe_add (xe_add (xe_add (xe_var 4) (xe_var 7)) (xe_own D_law_back (hr.mono (by decide)) (by rfl) (xa_cons (xe_var 4) xa_nil))) (xe_own D_law_back (hr.mono (by decide)) (by rfl) (xa_cons (xe_var 7) xa_nil)))))
  (xss_one (xs_if (xt_eq hr.units (xe_var 9) xe_int)
  (xss_one (xs_set 4 sc_law_built.nd (xe_add (xe_add (xe_var 7) (xe_var 4)) (xe_own D_law_back (hr.mono (by decide)) (by rfl) (xa_cons (xe_var 7) xa_nil)))))
  (xss_one (xs_if (xt_eq hr.units (xe_var 9) xe_int)
  (xss_cons (xs_set 10 sc_law_built.nd (xe_mod (xe_fdiv (xe_var 6) xe_int) (xe_add (xe_len (by rfl) (by exact B.len) (xa_cons (xe_var 4) xa_nil)) xe_int)))
  (xss_one (xs_set 4 sc_law_built.nd (xe_add (xe_add (xe_add (xe_add (xe_cut (xe_var 4) xo_none (xo_some (xe_var 10))) (xe_var 8)) (xe_lst (xd_cons (xe_tup (xd_cons (xe_ix (xe_ix (xe_var 7) xe_int) xe_int) (xd_cons xe_int xd_nil))) xd_nil))) (xe_own D_law_back (hr.mono (by decide)) (by rfl) (xa_cons (xe_var 8) xa_nil))) (xe_cut (xe_var 4) (xo_some (xe_var 10)) xo_none)))))
  (xss_one (xs_if (xt_eq hr.units (xe_var 9) xe_int)
  (xss_one (xs_set 4 sc_law_built.nd (xe_add (xe_add (xe_add (xe_add (xe_var 4) (xe_var 8)) (xe_var 7)) (xe_own D_law_back (hr.mono (by decide)) (by rfl) (xa_cons (xe_var 8) xa_nil))) (xe_own D_law_back (hr.mono (by decide)) (by rfl) (xa_cons (xe_var 7) xa_nil)))))
  (xss_one (xs_set 4 sc_law_built.nd (xe_add (xe_var 4) (xe_var 7)))))))))))))))))))
  (xss_one (xs_ret (xe_cut (xe_var 4) xo_none (xo_some (xe_var 3)))))))
noncomputable abbrev s_law_cord : Stmt := top 31
theorem sc_law_cord : FnScope ["_law_script", "_law_first", "_law_some", "_law_most", "_law_cell"] ["_law_script", "_law_first", "_law_some", "_law_most"] (defScope s_law_cord) := ⟨rfl, rfl, rfl, by decide +kernel, rfl, by decide +kernel, by decide +kernel⟩
theorem ok_law_cord (D : Def K mg "_law_cord" s_law_cord ["_law_script", "_law_first", "_law_some", "_law_most"]) (B : Bn mg) (D_law_at : Own P w K mg base 1 "_law_at" ["_law_script", "_law_k"] (spP K fn_law_at)) (D_law_by_digits : Own P w K mg base 1 "_law_by_digits" ["_law_cell", "_law_some", "_law_most"] (spP K fn_law_by_digits)) (D_law_built : Own P w K mg base 2 "_law_built" ["_law_script", "_law_first", "_law_some", "_law_most"] (spP K fn_law_built)) : Own P w K mg base 3 "_law_cord" ["_law_script", "_law_first", "_law_some", "_law_most"] (spP K fn_law_cord) := by
  delta fn_law_cord
  refine ownP (g := g_law_cord) D sc_law_cord rfl rfl (by decide) fun f cdv A outer s H E hr => ?_
  delta g_law_cord
  exact (xss_cons (xs_set 4 sc_law_cord.nd (xe_own D_law_at (hr.mono (by decide)) (by rfl) (xa_cons (xe_var 0) (xa_cons (xe_var 1) xa_nil))))
  (xss_cons (xs_if (xt_not (xt_ch .lt .lt (xe_neg (xe_pow xe_int xe_int)) (xe_var 4) (xe_pow xe_int xe_int)))
  (xss_one (xs_ret (xe_own D_law_by_digits (hr.mono (by decide)) (by rfl) (xa_cons (xe_var 4) (xa_cons (xe_var 2) (xa_cons (xe_var 3) xa_nil))))))
  xss_nil)
  (xss_one (xs_ret (xe_own D_law_built (hr.mono (by decide)) (by rfl) (xa_cons (xe_var 0) (xa_cons (xe_add (xe_var 1) xe_int) (xa_cons (xe_var 2) (xa_cons (xe_var 3) xa_nil)))))))))
noncomputable abbrev s_law_short : Stmt := top 32
theorem sc_law_short : FnScope ["_law_cord_here", "_law_runs", "_law_nail", "_law_turns_here"] ["_law_cord_here"] (defScope s_law_short) := ⟨rfl, rfl, rfl, by decide +kernel, rfl, by decide +kernel, by decide +kernel⟩
theorem ok_law_short (D : Def K mg "_law_short" s_law_short ["_law_cord_here"]) (B : Bn mg)  : Own P w K mg base 1 "_law_short" ["_law_cord_here"] (spP K fn_law_short) := by
  delta fn_law_short
  refine ownP (g := g_law_short) D sc_law_short rfl rfl (by decide) fun f cdv A outer s H E hr => ?_
  delta g_law_short
  exact (xss_cons (xs_set 1 sc_law_short.nd (xe_lst xd_nil))
  (xss_cons (xs_for PassesOwn.never (by rfl) (xi_any (xe_var 0)) (by delta t_law_short_L0; exact (xg_tup (by rfl) (xgs_cons (xg_name 2 sc_law_short.nd) (xgs_cons (xg_name 3 sc_law_short.nd) xgs_nil))))
  (by delta g_law_short_L0; exact (xss_cons (xs_if (xt_w (xw_and (xt_ne hr.units (xe_var 1) (xe_lst xd_nil)) (xw_and1 (xt_eq hr.units (xe_ix (xe_ix (xe_var 1) (xe_neg xe_int)) xe_int) (xe_var 2)))))
  (xss_one (xs_set 3 sc_law_short.nd (xe_add (xe_var 3) (xe_ix (xe_pop 1) xe_int))))
  xss_nil)
  (xss_one (xs_if (xt_ne hr.units (xe_var 3) xe_int)
  (xss_one (xs_expr (xe_append 1 (xe_tup (xd_cons (xe_var 2) (xd_cons (xe_var 3) xd_nil))))))
  xss_nil)))))
  (xss_one (xs_ret (xe_var 1)))))
noncomputable abbrev s_law_one_move : Stmt := top 33
theorem sc_law_one_move : FnScope ["_law_runs", "_law_move", "_law_found", "_law_nail", "_law_turns_here", "_law_step"] ["_law_runs", "_law_move"] (defScope s_law_one_move) := ⟨rfl, rfl, rfl, by decide +kernel, rfl, by decide +kernel, by decide +kernel⟩
theorem ok_law_one_move (D : Def K mg "_law_one_move" s_law_one_move ["_law_runs", "_law_move"]) (B : Bn mg) (D_law_short : Own P w K mg base 1 "_law_short" ["_law_cord_here"] (spP K fn_law_short)) : Own P w K mg base 2 "_law_one_move" ["_law_runs", "_law_move"] (spP K fn_law_one_move) := by
  delta fn_law_one_move
  refine ownP (g := g_law_one_move) D sc_law_one_move rfl rfl (by decide) fun f cdv A outer s H E hr => ?_
  delta g_law_one_move
  exact (xss_cons (xs_set 2 sc_law_one_move.nd (xe_lst xd_nil))
  (xss_cons (xs_for PassesOwn.never (by rfl) (xi_any (xe_var 0)) (by delta t_law_one_move_L0; exact (xg_tup (by rfl) (xgs_cons (xg_name 3 sc_law_one_move.nd) (xgs_cons (xg_name 4 sc_law_one_move.nd) xgs_nil))))
  (by delta g_law_one_move_L0; exact (xss_one (xs_if (xt_w (xw_and (xt_eq hr.units (xe_ix (xe_var 1) xe_int) xe_str) (xw_and1 (xt_eq hr.units (xe_var 3) (xe_ix (xe_var 1) xe_int)))))
  (xss_one (xs_expr (xe_append 2 (xe_tup (xd_cons (xe_var 3) (xd_cons (xe_sub xe_int (xe_var 4)) xd_nil))))))
  (xss_one (xs_if (xt_w (xw_and (xt_eq hr.units (xe_ix (xe_var 1) xe_int) xe_str) (xw_and1 (xt_in (xe_var 3) (xe_cutT (xe_var 1) (xo_some xe_int) xo_none)))))
  (xss_one (xs_expr (xe_append 2 (xe_tup (xd_cons (xe_ix (xe_var 1) (xe_add xe_int (xe_int1 (by rfl) (by exact B.int) (xa_cons (xe_eq hr.units (xe_var 3) (xe_ix (xe_var 1) xe_int)) xa_nil)))) (xd_cons (xe_var 4) xd_nil))))))
  (xss_one (xs_if (xt_w (xw_and (xt_eq hr.units (xe_ix (xe_var 1) xe_int) xe_str) (xw_and1 (xt_eq hr.units (xe_var 3) (xe_ix (xe_var 1) xe_int)))))
  (xss_cons (xs_set 5 sc_law_one_move.nd (xe_lst (xd_cons (xe_tup (xd_cons (xe_var 3) (xd_cons xe_int xd_nil))) (xd_cons (xe_tup (xd_cons (xe_ix (xe_var 1) xe_int) (xd_cons (xe_ix (xe_var 1) xe_int) xd_nil))) xd_nil))))
  (xss_cons (xs_if (xt_cm .lt (xe_var 4) xe_int)
  (xss_one (xs_set 5 sc_law_one_move.nd (xe_lst (xd_cons (xe_tup (xd_cons (xe_ix (xe_var 1) xe_int) (xd_cons (xe_sub xe_int (xe_ix (xe_var 1) xe_int)) xd_nil))) (xd_cons (xe_tup (xd_cons (xe_var 3) (xd_cons (xe_neg xe_int) xd_nil))) xd_nil)))))
  xss_nil)
  (xss_one (xs_set 2 sc_law_one_move.nd (xe_add (xe_var 2) (xe_mul (xe_var 5) (xe_abs (by rfl) (by exact B.abs) (xa_cons (xe_var 4) xa_nil))))))))
  (xss_one (xs_expr (xe_append 2 (xe_tup (xd_cons (xe_var 3) (xd_cons (xe_var 4) xd_nil))))))))))))))
  (xss_one (xs_ret (xe_own D_law_short (hr.mono (by decide)) (by rfl) (xa_cons (xe_var 2) xa_nil))))))
noncomputable abbrev s_law_moves : Stmt := top 34
theorem sc_law_moves : FnScope ["_law_script", "_law_first", "_law_some", "_law_many", "_law_moves_here", "_law_rest", "_law_digits", "_law_k", "_law_cell", "_law_nail", "_law_other"] ["_law_script", "_law_first", "_law_some", "_law_many"] (defScope s_law_moves) := ⟨rfl, rfl, rfl, by decide +kernel, rfl, by decide +kernel, by decide +kernel⟩
theorem ok_law_moves (D : Def K mg "_law_moves" s_law_moves ["_law_script", "_law_first", "_law_some", "_law_many"]) (B : Bn mg) (D_law_at : Own P w K mg base 1 "_law_at" ["_law_script", "_law_k"] (spP K fn_law_at)) (D_law_stir : Own P w K mg base 1 "_law_stir" ["_law_cell", "_law_k"] (spP K fn_law_stir)) : Own P w K mg base 2 "_law_moves" ["_law_script", "_law_first", "_law_some", "_law_many"] (spP K fn_law_moves) := by
  delta fn_law_moves
  refine ownP (g := g_law_moves) D sc_law_moves rfl rfl (by decide) fun f cdv A outer s H E hr => ?_
  delta g_law_moves
  exact (xss_cons (xs_set 4 sc_law_moves.nd (xe_lst xd_nil))
  (xss_cons (xs_set 5 sc_law_moves.nd (xe_own D_law_at (hr.mono (by decide)) (by rfl) (xa_cons (xe_var 0) (xa_cons (xe_var 1) xa_nil))))
  (xss_cons (xs_set 6 sc_law_moves.nd (xe_not (xe_ch .lt .lt (xe_neg (xe_pow xe_int xe_int)) (xe_var 5) (xe_pow xe_int xe_int))))
  (xss_cons (xs_for PassesOwn.never (by rfl) (xi_range1 (by rfl) (by exact B.range) (xa_cons (xe_var 3) xa_nil)) (by delta t_law_moves_L0; exact (xg_name 7 sc_law_moves.nd))
  (by delta g_law_moves_L0; exact (xss_cons (xs_set 8 sc_law_moves.nd (xe_var 5))
  (xss_cons (xs_if (xt_not (xt_tru (xe_var 6)))
  (xss_one (xs_set 8 sc_law_moves.nd (xe_own D_law_stir (hr.mono (by decide)) (by rfl) (xa_cons (xe_own D_law_at (hr.mono (by decide)) (by rfl) (xa_cons (xe_var 0) (xa_cons (xe_add (xe_add (xe_var 1) xe_int) (xe_var 7)) xa_nil))) (xa_cons (xe_var 7) xa_nil)))))
  xss_nil)
  (xss_cons (xs_set 9 sc_law_moves.nd (xe_ix (xe_var 2) (xe_mod (xe_fdiv (xe_var 8) xe_int) (xe_len (by rfl) (by exact B.len) (xa_cons (xe_var 2) xa_nil)))))
  (xss_cons (xs_set 10 sc_law_moves.nd (xe_ix (xe_comp1 (N := ["_law_one", "_law_nail"]) (js := [none, some 9]) compOpen (by rfl) (xi_any (xe_var 2)) (fun _ _ _ _ => (by delta t_law_moves_C1; exact (xg_name 0 (show (["_law_one", "_law_nail"] : List Str).Nodup by decide +kernel)))) (fun _ _ _ _ => (by delta c_law_moves_C1; exact (xt_ne hr.units (xe_var 0) (xe_var 1)))) (fun _ _ _ _ => (by delta e_law_moves_C1; exact (xe_var 0)))) (xe_mod (xe_fdiv (xe_var 8) xe_int) (xe_sub (xe_len (by rfl) (by exact B.len) (xa_cons (xe_var 2) xa_nil)) xe_int))))
  (xss_cons (xs_if (xt_eq hr.units (xe_mod (xe_var 8) xe_int) xe_int)
  (xss_one (xs_expr (xe_append 4 (xe_tup (xd_cons xe_str (xd_cons (xe_var 9) xd_nil))))))
  (xss_one (xs_if (xt_eq hr.units (xe_mod (xe_var 8) xe_int) xe_int)
  (xss_one (xs_expr (xe_append 4 (xe_tup (xd_cons xe_str (xd_cons (xe_var 9) (xd_cons (xe_var 10) xd_nil)))))))
  (xss_one (xs_expr (xe_append 4 (xe_tup (xd_cons xe_str (xd_cons (xe_var 9) (xd_cons (xe_var 10) (xd_cons (xe_sub (xe_mod (xe_fdiv (xe_var 8) xe_int) xe_int) xe_int) xd_nil)))))))))))
  (xss_one (xs_set 5 sc_law_moves.nd (xe_fdiv (xe_var 5) xe_int))))))))))
  (xss_one (xs_ret (xe_var 4)))))))
noncomputable abbrev s_law_wide : Stmt := top 35
theorem sc_law_wide : FnScope ["_law_runs", "_law_move"] ["_law_runs", "_law_move"] (defScope s_law_wide) := ⟨rfl, rfl, rfl, by decide +kernel, rfl, by decide +kernel, by decide +kernel⟩
theorem ok_law_wide (D : Def K mg "_law_wide" s_law_wide ["_law_runs", "_law_move"]) (B : Bn mg)  : Own P w K mg base 1 "_law_wide" ["_law_runs", "_law_move"] (spP K fn_law_wide) := by
  delta fn_law_wide
  refine ownP (g := g_law_wide) D sc_law_wide rfl rfl (by decide) fun f cdv A outer s H E hr => ?_
  delta g_law_wide
  exact (xss_one (xs_ret (xe_sum (by rfl) (by rfl) (by exact B.sum) (xa_cons (xe_comp0 (N := ["_law_nail", "_law_turns_here", "_law_move"]) (js := [none, none, some 1]) compOpen (by rfl) (xi_any (xe_var 0)) (fun _ _ _ _ => (by delta t_law_wide_C0; exact (xg_tup (by rfl) (xgs_cons (xg_name 0 (show (["_law_nail", "_law_turns_here", "_law_move"] : List Str).Nodup by decide +kernel)) (xgs_cons (xg_name 1 (show (["_law_nail", "_law_turns_here", "_law_move"] : List Str).Nodup by decide +kernel)) xgs_nil))))) (fun _ _ _ _ => (by delta e_law_wide_C0; exact (xe_if (xt_eq hr.units (xe_var 0) (xe_ix (xe_var 2) xe_int)) (xe_mul xe_int (xe_abs (by rfl) (by exact B.abs) (xa_cons (xe_var 1) xa_nil))) xe_int)))) xa_nil))))
noncomputable abbrev s_law_back_due : Stmt := top 36
theorem sc_law_back_due : FnScope ["_law_moves_here", "_law_found", "_law_move"] ["_law_moves_here"] (defScope s_law_back_due) := ⟨rfl, rfl, rfl, by decide +kernel, rfl, by decide +kernel, by decide +kernel⟩
theorem ok_law_back_due (D : Def K mg "_law_back_due" s_law_back_due ["_law_moves_here"]) (B : Bn mg)  : Own P w K mg base 1 "_law_back_due" ["_law_moves_here"] (spP K fn_law_back_due) := by
  delta fn_law_back_due
  refine ownP (g := g_law_back_due) D sc_law_back_due rfl rfl (by decide) fun f cdv A outer s H E hr => ?_
  delta g_law_back_due
  exact (xss_cons (xs_set 1 sc_law_back_due.nd (xe_lst xd_nil))
  (xss_cons (xs_for PassesOwn.never (by rfl) (xi_rev (by rfl) (by exact B.reversed) (xe_var 0)) (by delta t_law_back_due_L0; exact (xg_name 2 sc_law_back_due.nd))
  (by delta g_law_back_due_L0; exact (xss_cons (xs_if (xt_eq hr.units (xe_ix (xe_var 2) xe_int) xe_str)
  (xss_one (xs_set 2 sc_law_back_due.nd (xe_addT (xe_cutT (xe_var 2) xo_none (xo_some xe_int)) (xe_tup (xd_cons (xe_sub xe_int (xe_ix (xe_var 2) xe_int)) xd_nil)))))
  xss_nil)
  (xss_one (xs_expr (xe_append 1 (xe_var 2)))))))
  (xss_one (xs_ret (xe_var 1)))))
noncomputable abbrev s_law_fits : Stmt := top 37
theorem sc_law_fits : FnScope ["_law_runs", "_law_moves_here", "_law_move"] ["_law_runs", "_law_moves_here"] (defScope s_law_fits) := ⟨rfl, rfl, rfl, by decide +kernel, rfl, by decide +kernel, by decide +kernel⟩
theorem ok_law_fits (D : Def K mg "_law_fits" s_law_fits ["_law_runs", "_law_moves_here"]) (B : Bn mg) (D_law_wide : Own P w K mg base 1 "_law_wide" ["_law_runs", "_law_move"] (spP K fn_law_wide)) (D_law_one_move : Own P w K mg base 2 "_law_one_move" ["_law_runs", "_law_move"] (spP K fn_law_one_move)) : Own P w K mg base 3 "_law_fits" ["_law_runs", "_law_moves_here"] (spP K fn_law_fits) := by
  delta fn_law_fits
  refine ownP (g := g_law_fits) D sc_law_fits rfl rfl (by decide) fun f cdv A outer s H E hr => ?_
  delta g_law_fits
  exact (xss_cons (xs_for PassesOwn.never (by rfl) (xi_any (xe_var 1)) (by delta t_law_fits_L0; exact (xg_name 2 sc_law_fits.nd))
  (by delta g_law_fits_L0; exact (xss_cons (xs_if (xt_w (xw_and (xt_eq hr.units (xe_ix (xe_var 2) xe_int) xe_str) (xw_and1 (xt_cm .gt (xe_own D_law_wide (hr.mono (by decide)) (by rfl) (xa_cons (xe_var 0) (xa_cons (xe_var 2) xa_nil))) xe_int))))
  (xss_one (xs_ret xe_bl))
  xss_nil)
  (xss_one (xs_set 0 sc_law_fits.nd (xe_own D_law_one_move (hr.mono (by decide)) (by rfl) (xa_cons (xe_var 0) (xa_cons (xe_var 2) xa_nil))))))))
  (xss_one (xs_ret xe_bl)))
noncomputable abbrev s_law : Stmt := top 38
theorem sc_law : FnScope ["_law_script", "_law_many", "_law_some", "_law_cord_here", "_law_runs", "_law_moves_here", "_law_move", "_law_handed", "_law_found", "_law_due", "_law_there"] ["_law_script"] (defScope s_law) := ⟨rfl, rfl, rfl, by decide +kernel, rfl, by decide +kernel, by decide +kernel⟩
theorem ok_law {f0 : Addr} {fd : FuncData} (D : Fun K "law" "law" s_law f0 fd) (B : Bn mg) (D_law_at : Own P w K mg base 1 "_law_at" ["_law_script", "_law_k"] (spP K fn_law_at)) (D_law_nails : Own P w K mg base 1 "_law_nails" ["_law_cell", "_law_many"] (spP K fn_law_nails)) (D_law_cord : Own P w K mg base 3 "_law_cord" ["_law_script", "_law_first", "_law_some", "_law_most"] (spP K fn_law_cord)) (D_law_short : Own P w K mg base 1 "_law_short" ["_law_cord_here"] (spP K fn_law_short)) (D_law_moves : Own P w K mg base 2 "_law_moves" ["_law_script", "_law_first", "_law_some", "_law_many"] (spP K fn_law_moves)) (D_law_fits : Own P w K mg base 3 "_law_fits" ["_law_runs", "_law_moves_here"] (spP K fn_law_fits)) (D_law_one_move : Own P w K mg base 2 "_law_one_move" ["_law_runs", "_law_move"] (spP K fn_law_one_move)) (D_back_moves : Own P w K mg base 5 "back_moves" ["moves"] (spP K fn_back_moves)) (D_law_back_due : Own P w K mg base 1 "_law_back_due" ["_law_moves_here"] (spP K fn_law_back_due)) (D_moved : Own P w K mg base 5 "moved" ["cord", "moves"] (spP K fn_moved)) : FnOk P w K mg base CX0 6 f0 fd ["_law_script"] (spP K fn_law) := by
  delta fn_law
  refine fnP (g := g_law) D sc_law rfl rfl (by decide) fun cdv A outer s H E hr => ?_
  delta g_law
  exact (xss_cons (xs_set 1 sc_law.nd (xe_add xe_int (xe_mod (xe_own D_law_at (hr.mono (by decide)) (by rfl) (xa_cons (xe_var 0) (xa_cons xe_int xa_nil))) xe_int)))
  (xss_cons (xs_if (xt_eq hr.units (xe_mod (xe_fdiv (xe_own D_law_at (hr.mono (by decide)) (by rfl) (xa_cons (xe_var 0) (xa_cons xe_int xa_nil))) xe_int) xe_int) xe_int)
  (xss_one (xs_set 1 sc_law.nd xe_int))
  xss_nil)
  (xss_cons (xs_set 2 sc_law.nd (xe_own D_law_nails (hr.mono (by decide)) (by rfl) (xa_cons (xe_own D_law_at (hr.mono (by decide)) (by rfl) (xa_cons (xe_var 0) (xa_cons xe_int xa_nil))) (xa_cons (xe_var 1) xa_nil))))
  (xss_cons (xs_set 3 sc_law.nd (xe_own D_law_cord (hr.mono (by decide)) (by rfl) (xa_cons (xe_var 0) (xa_cons xe_int (xa_cons (xe_var 2) (xa_cons xe_int xa_nil))))))
  (xss_cons (xs_set 4 sc_law.nd (xe_own D_law_short (hr.mono (by decide)) (by rfl) (xa_cons (xe_var 3) xa_nil)))
  (xss_cons (xs_set 5 sc_law.nd (xe_lst xd_nil))
  (xss_cons (xs_for PassesOwn.never (by rfl) (xi_any (xe_own D_law_moves (hr.mono (by decide)) (by rfl) (xa_cons (xe_var 0) (xa_cons xe_int (xa_cons (xe_var 2) (xa_cons (xe_mod (xe_fdiv (xe_own D_law_at (hr.mono (by decide)) (by rfl) (xa_cons (xe_var 0) (xa_cons xe_int xa_nil))) xe_int) xe_int) xa_nil)))))) (by delta t_law_L0; exact (xg_name 6 sc_law.nd))
  (by delta g_law_L0; exact (xss_one (xs_if (xt_tru (xe_own D_law_fits (hr.mono (by decide)) (by rfl) (xa_cons (xe_var 4) (xa_cons (xe_lst (xd_cons (xe_var 6) xd_nil)) xa_nil))))
  (xss_cons (xs_expr (xe_append 5 (xe_var 6)))
  (xss_one (xs_set 4 sc_law.nd (xe_own D_law_one_move (hr.mono (by decide)) (by rfl) (xa_cons (xe_var 4) (xa_cons (xe_var 6) xa_nil))))))
  xss_nil))))
  (xss_cons (xs_set 7 sc_law.nd (xe_list (by rfl) (by exact B.list) (xe_var 5)))
  (xss_cons (xs_set 8 sc_law.nd (xe_own D_back_moves (hr.mono (by decide)) (by rfl) (xa_cons (xe_var 7) xa_nil)))
  (xss_cons (xs_if (xt_w (xw_or (xt_not (xt_tru (xe_isi .list (by rfl) (by exact B.isinstance) (xe_var 8) (by rfl) (by exact B.list) PyProof.Rows.boot_list))) (xw_or (xt_ne hr.units (xe_var 8) (xe_own D_law_back_due (hr.mono (by decide)) (by rfl) (xa_cons (xe_var 5) xa_nil))) (xw_or1 (xt_ne hr.units (xe_var 7) (xe_var 5))))))
  (xss_one (xs_ret xe_bl))
  xss_nil)
  (xss_cons (xs_if (xt_w (xw_or (xt_not (xt_tru (xe_all (by rfl) (by rfl) (by exact B.all) (xa_cons (xe_compK0 (N := ["_law_move"]) (js := [none]) compClosed (by rfl) (xi_keep (xe_var 8)) (fun _ _ _ _ => (by delta t_law_C1; exact (xg_name 0 (show (["_law_move"] : List Str).Nodup by decide +kernel)))) (fun _ _ _ _ => (by delta e_law_C1; exact (xe_isi .tuple (by rfl) (by exact B.isinstance) (xe_var 0) (by rfl) (by exact B.tuple) PyProof.Rows.boot_tuple)))) xa_nil)))) (xw_or1 (xt_ne hr.units (xe_own D_back_moves (hr.mono (by decide)) (by rfl) (xa_cons (xe_list (by rfl) (by exact B.list) (xe_var 8)) xa_nil)) (xe_var 5)))))
  (xss_one (xs_ret xe_bl))
  xss_nil)
  (xss_cons (xs_expr (xe_append 8 (xe_tup (xd_cons xe_str (xd_cons xe_str xd_nil)))))
  (xss_cons (xs_if (xt_ne hr.units (xe_var 7) (xe_var 5))
  (xss_one (xs_ret xe_bl))
  xss_nil)
  (xss_cons (xs_set 8 sc_law.nd (xe_own D_back_moves (hr.mono (by decide)) (by rfl) (xa_cons (xe_var 7) xa_nil)))
  (xss_cons (xs_if (xt_ne hr.units (xe_var 8) (xe_own D_law_back_due (hr.mono (by decide)) (by rfl) (xa_cons (xe_var 5) xa_nil)))
  (xss_one (xs_ret xe_bl))
  xss_nil)
  (xss_cons (xs_set 9 sc_law.nd (xe_own D_law_short (hr.mono (by decide)) (by rfl) (xa_cons (xe_var 3) xa_nil)))
  (xss_cons (xs_if (xt_w (xw_and (xt_tru (xe_own D_law_fits (hr.mono (by decide)) (by rfl) (xa_cons (xe_var 4) (xa_cons (xe_var 8) xa_nil)))) (xw_and1 (xt_ne hr.units (xe_own D_moved (hr.mono (by decide)) (by rfl) (xa_cons (xe_own D_moved (hr.mono (by decide)) (by rfl) (xa_cons (xe_list (by rfl) (by exact B.list) (xe_var 3)) (xa_cons (xe_var 5) xa_nil))) (xa_cons (xe_var 8) xa_nil))) (xe_var 9)))))
  (xss_one (xs_ret xe_bl))
  xss_nil)
  (xss_cons (xs_if (xt_not (xt_tru (xe_own D_law_fits (hr.mono (by decide)) (by rfl) (xa_cons (xe_var 9) (xa_cons (xe_var 8) xa_nil)))))
  (xss_one (xs_ret xe_bl))
  xss_nil)
  (xss_cons (xs_set 10 sc_law.nd (xe_own D_moved (hr.mono (by decide)) (by rfl) (xa_cons (xe_list (by rfl) (by exact B.list) (xe_var 3)) (xa_cons (xe_var 8) xa_nil))))
  (xss_one (xs_ret (xe_or (xe_not (xe_own D_law_fits (hr.mono (by decide)) (by rfl) (xa_cons (xe_var 10) (xa_cons (xe_var 5) xa_nil)))) (xe_one (xe_eq hr.units (xe_own D_moved (hr.mono (by decide)) (by rfl) (xa_cons (xe_var 10) (xa_cons (xe_var 5) xa_nil))) (xe_var 9)))))))))))))))))))))))))
end
end Nhk72
namespace Nhk72
open PySem L2 Nh PL
theorem pv_law_at (ns : List Int) (k : Nat) : fn_law_at [.list (ns.map .int), .int k] = some (.sh (.int (ns.getD k 0))) := by
  simp only [fn_law_at, fnB, List.length_cons, List.length_nil, Nat.zero_add, Nat.reduceAdd, runB, g_law_at, pSeq, pIfS, isB, pBin, pVar, startE, List.map_cons, List.map_nil, Nat.sub_self, List.replicate, List.cons_append, List.nil_append, List.getElem?_cons_succ, List.getElem?_cons_zero, Sl.isBr, Bool.false_and, Bool.false_eq_true, pCaS, aCons, aNil, Option.map_some, if_false, dLen, sc2, look, Sl.val, dCmp, Cm.i, Cm.s, Option.bind_some, lookA, pRet, pIx, hot, hot1, pNext, pC, outS, Clean, if_true]
  by_cases h : k < ns.length
  · simp [h, atI_nat', flat]
  · simp [h, List.getElem?_eq_none (Nat.le_of_not_lt h), flat]
theorem seq_nx {f g : PSv} {E E1 : List Sl} (h : f E = some (E1, .nx)) : pSeq f g E = g E1 := by
  unfold pSeq
  rw [h]
  rfl
theorem if_no {c : PTv} {a b : PSv} {E E1 : List Sl} {r : Option (List Sl × Fl)} (h : c E = some (false, E1)) (k : b E1 = r) : pIfS c a b E = r := by
  unfold pIfS
  rw [h, ← k]
  rfl
theorem if_yes {c : PTv} {a b : PSv} {E E1 : List Sl} {r : Option (List Sl × Fl)} (h : c E = some (true, E1)) (k : a E1 = r) : pIfS c a b E = r := by
  unfold pIfS
  rw [h, ← k]
  rfl
theorem cl_cons {tg : PGv} {elt : PEv} {d r : PyData} {ds rs : List PyData} {E E1 : List Sl} (t : tg d E = some E1) (el : elt E1 = some (.sh r, E1)) (h : cLoop tg tYesP elt ds E1 = some rs) : cLoop tg tYesP elt (d :: ds) E = some (r :: rs) := by
  rw [cLoop, t, Option.bind_some]
  simp only [tYesP, Option.bind_some, el, frz, h, Option.map_some, if_true]
theorem stir_ok (cell k : Int) (a : ∀ i : Int, okMul i k = true) (b : ∀ i j : Int, okMul (i % 2147483629) j = true) (c : ∀ i j : Int, okMul (i % 2147483587) j = true) : ∃ z : Int, fn_law_stir [.int cell, .int k] = some (.sh (.int z)) := by
  have d1 : okDiv 13 = true := by decide
  simp only [fn_law_stir, fnB, List.length_cons, List.length_nil, Nat.zero_add, Nat.reduceAdd, runB, g_law_stir, pSeq, pSet, pBin, pVar, startE, List.map_cons, List.map_nil, Nat.reduceSub, List.replicate, List.cons_append, List.nil_append, List.getElem?_cons_zero, Sl.isBr, Bool.false_and, Bool.false_eq_true, pC, pMod, sc2, look, Sl.val, iOp, Option.bind_some, if_false, Int.reduceLT, decide_true, if_true, Option.map_some, pMul, hot, hot1, Bool.not_false, Bool.true_or, Bool.and_true, pAdd, List.getElem?_cons_succ, a, PL.settle, frz, frzAll, Nat.reduceLT, List.set_cons_succ, List.set_cons_zero, pRet, pFdiv, b, c, d1, outS, Clean, flat]
  exact ⟨_, rfl⟩
theorem pv_law_stir (cell k : Int) (h1 : -100000 ≤ k) (h2 : k ≤ 100000) : ∃ z : Int, fn_law_stir [.int cell, .int k] = some (.sh (.int z)) := by
  refine stir_ok cell k (fun i => okMul_r (by omega) (by omega)) (fun i j => ?_) (fun i j => ?_)
  · have m0 := Int.emod_nonneg i (show (2147483629 : Int) ≠ 0 by decide)
    have m1 := Int.emod_lt_of_pos i (show (0 : Int) < 2147483629 by decide)
    exact okMul_l (by omega) (by omega)
  · have m0 := Int.emod_nonneg i (show (2147483587 : Int) ≠ 0 by decide)
    have m1 := Int.emod_lt_of_pos i (show (0 : Int) < 2147483587 by decide)
    exact okMul_l (by omega) (by omega)
noncomputable def stD (a : Nat) : PyData := .str ⟨#[a]⟩
theorem flat_stD : ∀ w : List Nat, flatA (w.map stD) = true
  | [] => rfl
  | a :: w => by simp [flatA, flat, flat_stD w, stD]
theorem st_nails (cell step k : Int) (m : okMul k step = true) : e_law_nails_C0 [.sh (.int k), .sh (.str "abcdefghijklmnopqrstuvwxyz"), .sh (.int cell), .sh (.int step)] = some (.sh (stD (97 + ((cell + k * step) % 26).toNat)), [.sh (.int k), .sh (.str "abcdefghijklmnopqrstuvwxyz"), .sh (.int cell), .sh (.int step)]) := by
  simp only [e_law_nails_C0, pBin, pVar, List.getElem?_cons_succ, List.getElem?_cons_zero, Sl.isBr, Bool.false_and, Bool.false_eq_true, pMul, look, Sl.val, hot, hot1, if_false, pAdd, pC, pMod, sc2, iOp, Option.bind_some, pIx, Bool.not_false, Bool.true_or, Bool.and_true, m, if_true, Int.reduceLT, decide_true, Option.map_some, len_az, az_m, stD]
theorem st_nails2 (cell many step i : Int) (n : Nat) (ws : List PyData) (dd : okDiv 26 = true) (hi : cell / 26 % 12 = i) (hs : atI [PyData.int 1, .int 3, .int 5, .int 7, .int 9, .int 11, .int 15, .int 17, .int 19, .int 21, .int 23, .int 25] i = some (.int step)) (o1 : -1000000 ≤ many) (o2 : many ≤ 1000000) (hn : many.toNat = n) (e : cLoop t_law_nails_C0 tYesP e_law_nails_C0 (rngD 0 n) [.no, .sh (.str "abcdefghijklmnopqrstuvwxyz"), .sh (.int cell), .sh (.int step)] = some ws) (fl : flatA ws = true) (ll : ws.length ≤ 1000000) : fn_law_nails [.int cell, .int many] = some (.ow ws) := by
  simp only [fn_law_nails, fnB, List.length_cons, List.length_nil, Nat.zero_add, Nat.reduceAdd, runB, g_law_nails, pSeq, pSet, pC, startE, List.map_cons, List.map_nil, Nat.reduceSub, List.replicate, List.cons_append, List.nil_append, PL.settle, frz, frzAll, Option.bind_some, Nat.reduceLT, List.set_cons_succ, List.set_cons_zero, if_true, pBin, pLst, dInts, Nat.reduceLeDiff, Sl.isBr, Bool.false_and, Bool.false_eq_true, pVar, pFdiv, sc2, look, Sl.val, iOp, if_false, pMod, pIx, hot, hot1, pRet, pComp, iRng1P, aCons, aNil, Option.map_some, slotsE, slotE, List.getElem?_cons_zero, dd, Int.reduceLT, decide_true, hi, hs, List.getElem?_cons_succ, lookA, o1, o2, and_self, hn, e, fl, ll, Bool.and_true, outS, Clean]
theorem pc_back : ∀ (d : List Pc) (x0 x1 : Sl), cLoop t_law_back_C0 tYesP e_law_back_C0 (d.map pcD) [x0, x1] = some ((d.map fun p => ((p.1, -p.2) : Pc)).map pcD)
  | [], x0, x1 => rfl
  | p :: d, x0, x1 => by
    have e : (t_law_back_C0 (pcD p) [x0, x1]) = some [.sh (.str ⟨#[p.1]⟩), .sh (.int p.2)] := rfl
    have e2 : e_law_back_C0 [.sh (.str ⟨#[p.1]⟩), .sh (.int p.2)] = some (.sh (pcD (p.1, -p.2)), [.sh (.str ⟨#[p.1]⟩), .sh (.int p.2)]) := by
      simp only [e_law_back_C0, pTup, dCons, pVar, List.getElem?_cons_zero, frz, pBin, pC, Sl.isBr, Bool.false_and, Bool.false_eq_true, pSub, sc2, look, Sl.val, iOp, if_true, if_false, Option.bind_some, dNil, Option.map_some, List.getElem?_cons_succ, Int.zero_sub, List.length_cons, List.length_nil, Nat.zero_add, Nat.reduceAdd, Nat.reduceLeDiff, pcD]
    rw [List.map_cons, cLoop, e, Option.bind_some]
    simp only [tYesP, frz, Option.bind_some, e2, pc_back d, Option.map_some, if_true, List.map_cons]
theorem pv_law_back (c : List Pc) (h : c.length ≤ 1000000) : fn_law_back [.list (c.map pcD)] = some (.ow ((NH.contr c).map pcD)) := by
  have k := pc_back c .no .no
  have r : ((c.map fun p => ((p.1, -p.2) : Pc)).map pcD).reverse = (NH.contr c).map pcD := by
    unfold NH.contr
    rw [← List.map_reverse, ← List.map_reverse]
  have fl : flatA ((c.map fun p => ((p.1, -p.2) : Pc)).map pcD) = true := flatA_pc _
  have fl2 : flatA ((NH.contr c).map pcD) = true := flatA_pc _
  have ll : ((c.map fun p => ((p.1, -p.2) : Pc)).map pcD).length ≤ 1000000 := by simpa using h
  generalize (c.map fun p => ((p.1, -p.2) : Pc)).map pcD = W at k r fl ll
  simp only [fn_law_back, fnB, List.length_cons, List.length_nil, Nat.zero_add, runB, g_law_back, pSeq, pSet, pComp, iAny, pVar, startE, List.map_cons, List.map_nil, Nat.reduceSub, List.replicate, List.cons_append, List.nil_append, List.getElem?_cons_zero, frz, Option.bind_some, slotsE, slotE, k, fl, ll, decide_true, Bool.and_true, if_true, PL.settle, frzAll, Nat.reduceAdd, Nat.reduceLT, List.set_cons_succ, List.set_cons_zero, pExpr, pReverse, pRet, List.getElem?_cons_succ, r, Option.map_some, outS, Clean, fl2]
theorem st_turns (cell r : Int) (dd : okDiv 9 = true) (hr : cell % 9 = r) (mm : okMul 2 1000000000000000000000000000000 = true) : fn_law_turns [.int cell] = some (.sh (.int (if r = 8 then cell / 9 % 2000000000000000000000000000000 - 1000000000000000000000000000000 else r - 4 + (if 3 < r then 1 else 0)))) := by
  by_cases h : r = 8
  · simp only [fn_law_turns, fnB, List.length_cons, List.length_nil, Nat.zero_add, runB, g_law_turns, pSeq, pIfS, isB, pBin, pVar, startE, List.map_cons, List.map_nil, Nat.sub_self, List.replicate, List.cons_append, List.nil_append, List.getElem?_cons_zero, Sl.isBr, Bool.false_and, Bool.false_eq_true, pC, pMod, sc2, look, Sl.val, iOp, Option.bind_some, if_false, Int.reduceLT, decide_true, hr, if_true, Option.map_some, pEq, dEq_int, eq_true h, pRet, pFdiv, pPow, Int.reducePow, Int.reduceNeg, Int.reduceLE, and_self, Int.reduceToNat, pMul, hot, hot1, Bool.not_false, Bool.true_or, Bool.and_true, mm, Int.reduceMul, pSub, pNext, dd, pCaS, aCons, dCmp, Cm.i, Cm.s, aNil, dInt, pAdd, outS, Clean, flat]
  · by_cases h3 : 3 < r
    · simp only [fn_law_turns, fnB, List.length_cons, List.length_nil, Nat.zero_add, runB, g_law_turns, pSeq, pIfS, isB, pBin, pVar, startE, List.map_cons, List.map_nil, Nat.sub_self, List.replicate, List.cons_append, List.nil_append, List.getElem?_cons_zero, Sl.isBr, Bool.false_and, Bool.false_eq_true, pC, pMod, sc2, look, Sl.val, iOp, Option.bind_some, if_false, Int.reduceLT, decide_true, hr, if_true, Option.map_some, pEq, dEq_int, h, decide_false, pRet, pFdiv, pPow, Int.reducePow, Int.reduceNeg, Int.reduceLE, and_self, Int.reduceToNat, pMul, hot, hot1, Bool.not_false, Bool.true_or, Bool.and_true, Int.reduceMul, pSub, pNext, pCaS, aCons, dCmp, Cm.i, Cm.s, aNil, dInt, pAdd, h3, lookA, outS, Clean, flat]
    · simp only [fn_law_turns, fnB, List.length_cons, List.length_nil, Nat.zero_add, runB, g_law_turns, pSeq, pIfS, isB, pBin, pVar, startE, List.map_cons, List.map_nil, Nat.sub_self, List.replicate, List.cons_append, List.nil_append, List.getElem?_cons_zero, Sl.isBr, Bool.false_and, Bool.false_eq_true, pC, pMod, sc2, look, Sl.val, iOp, Option.bind_some, if_false, Int.reduceLT, decide_true, hr, if_true, Option.map_some, pEq, dEq_int, h, decide_false, pRet, pFdiv, pPow, Int.reducePow, Int.reduceNeg, Int.reduceLE, and_self, Int.reduceToNat, pMul, hot, hot1, Bool.not_false, Bool.true_or, Bool.and_true, Int.reduceMul, pSub, pNext, pCaS, aCons, dCmp, Cm.i, Cm.s, aNil, dInt, pAdd, h3, lookA, outS, Clean, flat]
theorem pv_law_turns (cell : Int) : ∃ z : Int, fn_law_turns [.int cell] = some (.sh (.int z)) ∧ z.natAbs < 2 ^ 100 := by
  have m0 := Int.emod_nonneg cell (show (9 : Int) ≠ 0 by decide)
  have m1 := Int.emod_lt_of_pos cell (show (0 : Int) < 9 by decide)
  have n0 := Int.emod_nonneg (cell / 9) (show (2000000000000000000000000000000 : Int) ≠ 0 by decide)
  have n1 := Int.emod_lt_of_pos (cell / 9) (show (0 : Int) < 2000000000000000000000000000000 by decide)
  refine ⟨_, st_turns cell _ (by decide) rfl (okMul_l (by decide) (by decide)), ?_⟩
  generalize cell / 9 % 2000000000000000000000000000000 = y at n0 n1
  generalize cell % 9 = r at m0 m1
  split
  · omega
  · split <;> omega
theorem atI_3 {α : Type} (a b c d : α) (l : List α) : atI (a :: b :: c :: d :: l) 3 = some d := atI_nat' (a :: b :: c :: d :: l) 3
theorem sn_tc : ((Str.ofString "turn") = (Str.ofString "change")) = False := eq_false (by decide +kernel)
theorem sn_ts : ((Str.ofString "turn") = (Str.ofString "slide")) = False := eq_false (by decide +kernel)
theorem sn_ct : ((Str.ofString "change") = (Str.ofString "turn")) = False := eq_false (by decide +kernel)
theorem sn_cs : ((Str.ofString "change") = (Str.ofString "slide")) = False := eq_false (by decide +kernel)
theorem sn_st : ((Str.ofString "slide") = (Str.ofString "turn")) = False := eq_false (by decide +kernel)
theorem sn_sc : ((Str.ofString "slide") = (Str.ofString "change")) = False := eq_false (by decide +kernel)
theorem st_mv_t (x0 a b s : Sl) (n : Nat) (p : Pc) (f : List Pc) (lb : f.length < 1000000) : (t_law_one_move_L0 (pcD p) [x0, .sh (mvD (.turn n)), .ow (f.map pcD), a, b, s]).bind g_law_one_move_L0 = some ([x0, .sh (mvD (.turn n)), .ow ((f ++ img (.turn n) p).map pcD), .sh (.str ⟨#[p.1]⟩), .sh (.int p.2), s], .nx) := by
  have tt : t_law_one_move_L0 (pcD p) [x0, .sh (mvD (.turn n)), .ow (f.map pcD), a, b, s] = some [x0, .sh (mvD (.turn n)), .ow (f.map pcD), .sh (.str ⟨#[p.1]⟩), .sh (.int p.2), s] := rfl
  have m : ∀ v : Pc, (f ++ [v]).map pcD = f.map pcD ++ [PyData.tuple [.str ⟨#[v.1]⟩, .int v.2]] := fun v => by simp [pcD]
  rw [tt, Option.bind_some]
  by_cases h : p.1 = n
  · simp only [img, eq_true h, if_true, m]
    simp only [g_law_one_move_L0, pIfS, tAndP, isB, pBin, pVar, mvD, List.getElem?_cons_succ, List.getElem?_cons_zero, Sl.isBr, Bool.false_and, Bool.false_eq_true, pC, pIx, look, Sl.val, hot, hot1, Option.bind_some, if_false, atI_0, Option.map_some, pEq, sc2, dEq_str, decide_true, atI_1, str1_eq, eq_true h, if_true, pExpr, pAppend, pTup, dCons, frz, pSub, iOp, dNil, pCutT, oSome, oNone, pIn, dIn, pCaS, aCons, aNil, dInt, pAdd, Bool.not_false, Bool.true_or, Bool.and_true, pSeq, pSet, pLst, PL.settle, frzAll, dCmp, Cm.i, Cm.s, pUn, dNeg, Int.reduceNeg, pNext, dAbs, pMul, Int.zero_sub, List.length_cons, List.length_nil, Nat.zero_add, Nat.reduceAdd, Nat.reduceLeDiff, List.length_map, lb, List.set_cons_succ, List.set_cons_zero, flatA, flat, Bool.true_and]
  · simp only [img, h, if_false, m]
    simp only [g_law_one_move_L0, pIfS, tAndP, isB, pBin, pVar, mvD, List.getElem?_cons_succ, List.getElem?_cons_zero, Sl.isBr, Bool.false_and, Bool.false_eq_true, pC, pIx, look, Sl.val, hot, hot1, Option.bind_some, if_false, atI_0, Option.map_some, pEq, sc2, dEq_str, decide_true, atI_1, str1_eq, h, decide_false, if_true, pExpr, pAppend, pTup, dCons, frz, pSub, iOp, dNil, pCutT, oSome, oNone, pIn, dIn, pCaS, aCons, aNil, dInt, pAdd, Bool.not_false, Bool.true_or, Bool.and_true, pSeq, pSet, pLst, PL.settle, frzAll, dCmp, Cm.i, Cm.s, pUn, dNeg, Int.reduceNeg, pNext, dAbs, pMul, List.length_cons, List.length_nil, Nat.zero_add, Nat.reduceAdd, Nat.reduceLeDiff, List.length_map, lb, List.set_cons_succ, List.set_cons_zero, sn_tc, flatA, flat, Bool.true_and, lookA, Int.reduceAdd, sn_ts]
theorem st_mv_s (x0 a b s : Sl) (n n2 : Nat) (t : Int) (p : Pc) (f : List Pc) (lb : f.length < 500000) (tb : p.1 = n → p.2.natAbs ≤ 100000) : ∃ s', (t_law_one_move_L0 (pcD p) [x0, .sh (mvD (.slide n n2 t)), .ow (f.map pcD), a, b, s]).bind g_law_one_move_L0 = some ([x0, .sh (mvD (.slide n n2 t)), .ow ((f ++ img (.slide n n2 t) p).map pcD), .sh (.str ⟨#[p.1]⟩), .sh (.int p.2), s'], .nx) := by
  have tt : t_law_one_move_L0 (pcD p) [x0, .sh (mvD (.slide n n2 t)), .ow (f.map pcD), a, b, s] = some [x0, .sh (mvD (.slide n n2 t)), .ow (f.map pcD), .sh (.str ⟨#[p.1]⟩), .sh (.int p.2), s] := rfl
  have m : ∀ v : Pc, (f ++ [v]).map pcD = f.map pcD ++ [PyData.tuple [.str ⟨#[v.1]⟩, .int v.2]] := fun v => by simp [pcD]
  rw [tt, Option.bind_some]
  by_cases h : p.1 = n
  · have tb' := tb h
    subst h
    obtain ⟨k, hk⟩ : ∃ k, p.2.natAbs = k := ⟨_, rfl⟩
    by_cases neg : p.2 < 0
    · have hk2 : (-p.2).toNat = k := by omega
      have lm : 2 * k ≤ 1000000 ∧ -1000000 ≤ -p.2 ∧ -p.2 ≤ 1000000 := by omega
      have l2 : f.length + (List.replicate k [((n2, -t) : Pc), (p.1, -1)]).flatten.length ≤ 1000000 := by
        have := NH.pw_len k [((n2, -t) : Pc), (p.1, -1)]
        unfold NH.pw at this
        rw [this]
        simp
        omega
      have r : (List.replicate k [PyData.tuple [.str ⟨#[n2]⟩, .int (-t)], PyData.tuple [.str ⟨#[p.1]⟩, .int (-1)]]).flatten = (List.replicate k [((n2, -t) : Pc), (p.1, -1)]).flatten.map pcD := by
        rw [show [PyData.tuple [.str ⟨#[n2]⟩, .int (-t)], PyData.tuple [.str ⟨#[p.1]⟩, .int (-1)]] = [((n2, -t) : Pc), (p.1, -1)].map pcD from rfl, rep_map]
      refine ⟨.ow [PyData.tuple [.str ⟨#[n2]⟩, .int (-t)], PyData.tuple [.str ⟨#[p.1]⟩, .int (-1)]], ?_⟩
      rw [show img (.slide p.1 n2 t) p = (List.replicate k [((n2, -t) : Pc), (p.1, -1)]).flatten by simp [img, neg, NH.pw, hk], List.map_append]
      simp only [g_law_one_move_L0, pIfS, tAndP, isB, pBin, pVar, mvD, List.getElem?_cons_succ, List.getElem?_cons_zero, Sl.isBr, Bool.false_and, Bool.false_eq_true, pC, pIx, look, Sl.val, hot, hot1, Option.bind_some, if_false, atI_0, Option.map_some, pEq, sc2, dEq_str, sn_st, decide_false, atI_1, decide_true, pExpr, pAppend, pTup, dCons, frz, pSub, iOp, if_true, dNil, pCutT, oSome, oNone, pIn, dIn, pCaS, aCons, aNil, dInt, pAdd, Bool.not_false, Bool.true_or, Bool.and_true, pSeq, pSet, pLst, PL.settle, frzAll, dCmp, Cm.i, Cm.s, pUn, dNeg, Int.reduceNeg, pNext, dAbs, pMul, Int.zero_sub, List.length_cons, List.length_nil, Nat.zero_add, Nat.reduceAdd, Nat.reduceLeDiff, List.length_map, List.set_cons_succ, List.set_cons_zero, sn_sc, flatA, flat, Bool.true_and, lookA, atI_2, atI_3, Nat.reduceLT, neg, Option.any_some, hk2, lm, and_self, r, l2]
    · have hk2 : (p.2).toNat = k := by omega
      have lm : 2 * k ≤ 1000000 ∧ -1000000 ≤ p.2 ∧ p.2 ≤ 1000000 := by omega
      have l2 : f.length + (List.replicate k [((p.1, 1) : Pc), (n2, t)]).flatten.length ≤ 1000000 := by
        have := NH.pw_len k [((p.1, 1) : Pc), (n2, t)]
        unfold NH.pw at this
        rw [this]
        simp
        omega
      have r : (List.replicate k [PyData.tuple [.str ⟨#[p.1]⟩, .int 1], PyData.tuple [.str ⟨#[n2]⟩, .int t]]).flatten = (List.replicate k [((p.1, 1) : Pc), (n2, t)]).flatten.map pcD := by
        rw [show [PyData.tuple [.str ⟨#[p.1]⟩, .int 1], PyData.tuple [.str ⟨#[n2]⟩, .int t]] = [((p.1, 1) : Pc), (n2, t)].map pcD from rfl, rep_map]
      refine ⟨.ow [PyData.tuple [.str ⟨#[p.1]⟩, .int 1], PyData.tuple [.str ⟨#[n2]⟩, .int t]], ?_⟩
      rw [show img (.slide p.1 n2 t) p = (List.replicate k [((p.1, 1) : Pc), (n2, t)]).flatten by simp [img, neg, NH.pw, hk], List.map_append]
      simp only [g_law_one_move_L0, pIfS, tAndP, isB, pBin, pVar, mvD, List.getElem?_cons_succ, List.getElem?_cons_zero, Sl.isBr, Bool.false_and, Bool.false_eq_true, pC, pIx, look, Sl.val, hot, hot1, Option.bind_some, if_false, atI_0, Option.map_some, pEq, sc2, dEq_str, sn_st, decide_false, atI_1, decide_true, pExpr, pAppend, pTup, dCons, frz, pSub, iOp, if_true, dNil, pCutT, oSome, oNone, pIn, dIn, pCaS, aCons, aNil, dInt, pAdd, Bool.not_false, Bool.true_or, Bool.and_true, pSeq, pSet, pLst, PL.settle, frzAll, dCmp, Cm.i, Cm.s, pUn, dNeg, pNext, dAbs, pMul, List.length_cons, List.length_nil, Nat.zero_add, Nat.reduceAdd, Nat.reduceLeDiff, List.length_map, List.set_cons_succ, List.set_cons_zero, sn_sc, flatA, flat, Bool.true_and, lookA, atI_2, atI_3, Nat.reduceLT, neg, Option.any_some, hk2, lm, and_self, r, l2]
  · have lb2 : f.length < 1000000 := by omega
    refine ⟨s, ?_⟩
    simp only [img, h, if_false, m]
    simp only [g_law_one_move_L0, pIfS, tAndP, isB, pBin, pVar, mvD, List.getElem?_cons_succ, List.getElem?_cons_zero, Sl.isBr, Bool.false_and, Bool.false_eq_true, pC, pIx, look, Sl.val, hot, hot1, Option.bind_some, if_false, atI_0, Option.map_some, pEq, sc2, dEq_str, sn_st, decide_false, atI_1, str1_eq, h, pExpr, pAppend, pTup, dCons, frz, pSub, iOp, if_true, dNil, pCutT, oSome, oNone, pIn, dIn, pCaS, aCons, aNil, dInt, pAdd, Bool.not_false, Bool.true_or, Bool.and_true, pSeq, pSet, pLst, PL.settle, frzAll, dCmp, Cm.i, Cm.s, pUn, dNeg, Int.reduceNeg, pNext, dAbs, pMul, List.length_cons, List.length_nil, Nat.zero_add, Nat.reduceAdd, Nat.reduceLeDiff, List.length_map, lb2, List.set_cons_succ, List.set_cons_zero, sn_sc, flatA, flat, Bool.true_and, lookA, Int.reduceAdd, decide_true, atI_2]
theorem has_two (a b c : Nat) : dIn (.str ⟨#[a]⟩) (.tuple [.str ⟨#[b]⟩, .str ⟨#[c]⟩]) = some (decide (a = b ∨ a = c)) := by
  show some (List.contains [(⟨#[b]⟩ : Str), ⟨#[c]⟩] ⟨#[a]⟩) = _
  congr 1
  rw [Bool.eq_iff_iff, List.contains_iff_mem]
  simp
theorem st_mv_c (x0 a b s : Sl) (n m : Nat) (p : Pc) (f : List Pc) (lb : f.length < 1000000) : (t_law_one_move_L0 (pcD p) [x0, .sh (mvD (.change n m)), .ow (f.map pcD), a, b, s]).bind g_law_one_move_L0 = some ([x0, .sh (mvD (.change n m)), .ow ((f ++ img (.change n m) p).map pcD), .sh (.str ⟨#[p.1]⟩), .sh (.int p.2), s], .nx) := by
  have tt : t_law_one_move_L0 (pcD p) [x0, .sh (mvD (.change n m)), .ow (f.map pcD), a, b, s] = some [x0, .sh (mvD (.change n m)), .ow (f.map pcD), .sh (.str ⟨#[p.1]⟩), .sh (.int p.2), s] := rfl
  have mm : ∀ v : Pc, (f ++ [v]).map pcD = f.map pcD ++ [PyData.tuple [.str ⟨#[v.1]⟩, .int v.2]] := fun v => by simp [pcD]
  have ct : pCutT false (pVar 1) (oSome (pC (.int 1))) oNone [x0, .sh (mvD (.change n m)), .ow (f.map pcD), .sh (.str ⟨#[p.1]⟩), .sh (.int p.2), s] = some (.sh (.tuple [.str ⟨#[n]⟩, .str ⟨#[m]⟩]), [x0, .sh (mvD (.change n m)), .ow (f.map pcD), .sh (.str ⟨#[p.1]⟩), .sh (.int p.2), s]) := rfl
  rw [tt, Option.bind_some]
  have inn : (isB (pBin (pIn false) false (pVar 3) (pCutT false (pVar 1) (oSome (pC (.int 1))) oNone))) [x0, .sh (mvD (.change n m)), .ow (f.map pcD), .sh (.str ⟨#[p.1]⟩), .sh (.int p.2), s] = some (decide (p.1 = n ∨ p.1 = m), [x0, .sh (mvD (.change n m)), .ow (f.map pcD), .sh (.str ⟨#[p.1]⟩), .sh (.int p.2), s]) := by
    have v3 : pVar 3 [x0, .sh (mvD (.change n m)), .ow (f.map pcD), .sh (.str ⟨#[p.1]⟩), .sh (.int p.2), s] = some (.sh (.str ⟨#[p.1]⟩), [x0, .sh (mvD (.change n m)), .ow (f.map pcD), .sh (.str ⟨#[p.1]⟩), .sh (.int p.2), s]) := rfl
    unfold isB pBin
    rw [v3]
    simp only [Option.bind_some, Bool.false_and, Bool.false_eq_true, if_false, ct]
    simp only [pIn, sc2, look, Sl.val, Option.bind_some, has_two, Option.map_some]
    rfl
  generalize hct : pCutT false (pVar 1) (oSome (pC (.int 1))) oNone = CT at ct inn
  have gl : g_law_one_move_L0 = (pIfS (tAndP (isB (pBin pEq false (pBin pIx false (pVar 1) (pC (.int 0))) (pC (.str "turn")))) (isB (pBin pEq false (pVar 3) (pBin pIx false (pVar 1) (pC (.int 1))))))
    (pExpr (pAppend 2 (pTup (dCons (pVar 3) (dCons (pBin pSub false (pC (.int 0)) (pVar 4)) dNil)))))
    (pIfS (tAndP (isB (pBin pEq false (pBin pIx false (pVar 1) (pC (.int 0))) (pC (.str "change")))) (isB (pBin (pIn false) false (pVar 3) CT)))
    (pExpr (pAppend 2 (pTup (dCons (pBin pIx false (pVar 1) (pBin pAdd false (pC (.int 1)) (pCaS dInt (aCons false (pBin pEq false (pVar 3) (pBin pIx false (pVar 1) (pC (.int 1)))) aNil)))) (dCons (pVar 4) dNil)))))
    (pIfS (tAndP (isB (pBin pEq false (pBin pIx false (pVar 1) (pC (.int 0))) (pC (.str "slide")))) (isB (pBin pEq false (pVar 3) (pBin pIx false (pVar 1) (pC (.int 1))))))
    (pSeq (pSet 5 (pLst (dCons (pTup (dCons (pVar 3) (dCons (pC (.int 1)) dNil))) (dCons (pTup (dCons (pBin pIx false (pVar 1) (pC (.int 2))) (dCons (pBin pIx false (pVar 1) (pC (.int 3))) dNil))) dNil))))
    (pSeq (pIfS (isB (pBin (sc2 (dCmp .lt)) false (pVar 4) (pC (.int 0))))
    (pSet 5 (pLst (dCons (pTup (dCons (pBin pIx false (pVar 1) (pC (.int 2))) (dCons (pBin pSub false (pC (.int 0)) (pBin pIx false (pVar 1) (pC (.int 3)))) dNil))) (dCons (pTup (dCons (pVar 3) (dCons (pUn dNeg (pC (.int 1))) dNil))) dNil))))
    pNext)
    (pSet 2 (pBin pAdd false (pVar 2) (pBin pMul false (pVar 5) (pCaS dAbs (aCons false (pVar 4) aNil)))))))
    (pExpr (pAppend 2 (pTup (dCons (pVar 3) (dCons (pVar 4) dNil)))))))) := by rw [← hct]; rfl
  generalize hin : isB (pBin (pIn false) false (pVar 3) CT) = IN at gl inn
  rw [gl]
  by_cases h : p.1 = n
  · have d : decide (p.1 = n ∨ p.1 = m) = true := decide_eq_true (Or.inl h)
    rw [d] at inn
    rw [show img (.change n m) p = [(m, p.2)] by simp [img, h], mm]
    simp only [mvD] at inn ⊢
    simp only [pIfS, tAndP, isB, pBin, pVar, List.getElem?_cons_succ, List.getElem?_cons_zero, Sl.isBr, Bool.false_and, Bool.false_eq_true, pC, pIx, look, Sl.val, hot, hot1, Option.bind_some, if_false, atI_0, Option.map_some, pEq, sc2, dEq_str, sn_ct, decide_false, atI_1, str1_eq, eq_true h, decide_true, pExpr, pAppend, pTup, dCons, frz, pSub, iOp, if_true, dNil, pCaS, aCons, aNil, dInt, pAdd, Bool.not_false, Bool.true_or, Bool.and_true, pSeq, pSet, pLst, PL.settle, frzAll, dCmp, Cm.i, Cm.s, pUn, dNeg, Int.reduceNeg, pNext, dAbs, pMul, List.length_cons, List.length_nil, Nat.zero_add, Nat.reduceAdd, Nat.reduceLeDiff, List.length_map, lb, List.set_cons_succ, List.set_cons_zero, inn, lookA, Int.reduceAdd, atI_2]
  · by_cases h2 : p.1 = m
    · have d : decide (p.1 = n ∨ p.1 = m) = true := decide_eq_true (Or.inr h2)
      rw [d] at inn
      rw [show img (.change n m) p = [(n, p.2)] by simp [img, h, h2, show ¬ m = n from fun z => h (h2.trans z)], mm]
      simp only [mvD] at inn ⊢
      simp only [pIfS, tAndP, isB, pBin, pVar, List.getElem?_cons_succ, List.getElem?_cons_zero, Sl.isBr, Bool.false_and, Bool.false_eq_true, pC, pIx, look, Sl.val, hot, hot1, Option.bind_some, if_false, atI_0, Option.map_some, pEq, sc2, dEq_str, sn_ct, decide_false, atI_1, str1_eq, h, pExpr, pAppend, pTup, dCons, frz, pSub, iOp, if_true, dNil, pCaS, aCons, aNil, dInt, pAdd, Bool.not_false, Bool.true_or, Bool.and_true, pSeq, pSet, pLst, PL.settle, frzAll, dCmp, Cm.i, Cm.s, pUn, dNeg, Int.reduceNeg, pNext, dAbs, pMul, List.length_cons, List.length_nil, Nat.zero_add, Nat.reduceAdd, Nat.reduceLeDiff, List.length_map, lb, List.set_cons_succ, List.set_cons_zero, decide_true, inn, lookA, Int.reduceAdd]
    · have d : decide (p.1 = n ∨ p.1 = m) = false := decide_eq_false (fun z => z.elim h h2)
      rw [d] at inn
      rw [show img (.change n m) p = [p] by simp [img, h, h2], mm]
      simp only [mvD] at inn ⊢
      simp only [pIfS, tAndP, isB, pBin, pVar, List.getElem?_cons_succ, List.getElem?_cons_zero, Sl.isBr, Bool.false_and, Bool.false_eq_true, pC, pIx, look, Sl.val, hot, hot1, Option.bind_some, if_false, atI_0, Option.map_some, pEq, sc2, dEq_str, sn_ct, decide_false, atI_1, str1_eq, pExpr, pAppend, pTup, dCons, frz, pSub, iOp, if_true, dNil, pCaS, aCons, aNil, dInt, pAdd, Bool.not_false, Bool.true_or, Bool.and_true, pSeq, pSet, pLst, PL.settle, frzAll, dCmp, Cm.i, Cm.s, pUn, dNeg, Int.reduceNeg, pNext, dAbs, pMul, List.length_cons, List.length_nil, Nat.zero_add, Nat.reduceAdd, Nat.reduceLeDiff, List.length_map, lb, List.set_cons_succ, List.set_cons_zero, decide_true, inn, lookA, sn_cs, atI_2]
theorem pl_law_short (x0 : Sl) : ∀ (c : List Pc) (st : List Pc) (a b : Sl), st.length + c.length ≤ 100000 → NailsOk st → NailsOk c → ∃ a' b', pLoop t_law_short_L0 g_law_short_L0 (c.map pcD) [x0, .ow (st.reverse.map pcD), a, b] = some ([x0, .ow ((c.foldl NH.stp st).reverse.map pcD), a', b'], .nx)
  | [], st, a, b, _, _, _ => ⟨a, b, rfl⟩
  | p :: c, st, a, b, h, hs, hc => by
    have step : ∃ a' b', (t_law_short_L0 (pcD p) [x0, .ow (st.reverse.map pcD), a, b]).bind g_law_short_L0 = some ([x0, .ow ((NH.stp st p).reverse.map pcD), a', b'], .nx) := by
      have e0 := dEq_cord_nil hs.reverse
      cases st with
      | nil =>
        simp only [List.reverse_nil, List.map_nil] at e0
        by_cases z : p.2 = 0
        · simp only [t_law_short_L0, gTupP, pcD, z, List.length_cons, List.length_nil, Nat.zero_add, Nat.reduceAdd, gConsP, gNameP, List.reverse_nil, List.map_nil, Nat.reduceLT, List.set_cons_succ, List.set_cons_zero, if_true, Option.bind_some, gNilP, List.isEmpty_nil, g_law_short_L0, pNe, pEq, pSeq, pIfS, tAndP, isB, pBin, pVar, List.getElem?_cons_succ, List.getElem?_cons_zero, Sl.isBr, Bool.false_and, Bool.false_eq_true, pLst, dNil, Nat.reduceLeDiff, sc2, look, Sl.val, if_false, e0, decide_true, Option.map_some, Bool.not_true, pUn, pC, dNeg, pIx, hot, hot1, Option.any_some, pSet, Bool.true_and, pPop, pAdd, PL.settle, frz, frzAll, pNext, Nat.reduceSub, Bool.not_false, Bool.true_or, Bool.and_true, pExpr, pAppend, pTup, dCons, dEq_int, List.nil_append, NH.stp]
          exact ⟨_, _, rfl⟩
        · simp only [t_law_short_L0, gTupP, pcD, List.length_cons, List.length_nil, Nat.zero_add, Nat.reduceAdd, gConsP, gNameP, List.reverse_nil, List.map_nil, Nat.reduceLT, List.set_cons_succ, List.set_cons_zero, if_true, Option.bind_some, gNilP, List.isEmpty_nil, g_law_short_L0, pNe, pEq, pSeq, pIfS, tAndP, isB, pBin, pVar, List.getElem?_cons_succ, List.getElem?_cons_zero, Sl.isBr, Bool.false_and, Bool.false_eq_true, pLst, dNil, Nat.reduceLeDiff, sc2, look, Sl.val, if_false, e0, decide_true, Option.map_some, Bool.not_true, pUn, pC, dNeg, pIx, hot, hot1, Option.any_some, pSet, Bool.true_and, pPop, pAdd, PL.settle, frz, frzAll, pNext, Nat.reduceSub, Bool.not_false, Bool.true_or, Bool.and_true, pExpr, pAppend, pTup, dCons, dEq_int, z, decide_false, List.nil_append, NH.stp]
          exact ⟨_, _, rfl⟩
      | cons q st =>
        have lb : st.length < 1000000 ∧ st.length + 1 < 1000000 := by simp at h; omega
        simp only [List.reverse_cons, List.map_append, List.map_cons, List.map_nil] at e0
        have et : ∀ ds, t_law_short_L0 (pcD p) [x0, .ow ds, a, b] = some [x0, .ow ds, .sh (.str ⟨#[p.1]⟩), .sh (.int p.2)] := fun _ => rfl
        rw [et, Option.bind_some]
        by_cases e : q.1 = p.1
        · by_cases z : q.2 + p.2 = 0
          · simp only [g_law_short_L0, pSeq, pIfS, tAndP, isB, pBin, pVar, List.reverse_cons, List.map_append, List.map_cons, List.map_nil, List.getElem?_cons_succ, List.getElem?_cons_zero, Sl.isBr, Bool.false_and, Bool.false_eq_true, pLst, dNil, Option.bind_some, List.length_nil, Nat.reduceLeDiff, if_true, pNe, sc2, look, Sl.val, if_false, e0, List.append_eq_nil_iff, reduceCtorEq, and_false, decide_false, Option.map_some, Bool.not_false, pUn, pC, dNeg, pIx, hot, hot1, pEq, Option.any_some, atI_lst, pSet, Bool.true_and, pPop, pAdd, PL.settle, frz, frzAll, pNext, pExpr, pAppend, pTup, dCons, NH.stp]
            simp only [pcD, e, atI_0, Option.map_some, Option.bind_some, List.getElem?_cons_succ, List.getElem?_cons_zero, dEq_str, decide_true, Bool.false_eq_true, List.dropLast_concat, List.set_cons_succ, List.set_cons_zero, get_lst, Bool.false_and, if_false, atI_1, Bool.not_false, Bool.true_or, Bool.and_true, Int.add_comm p.2 q.2, z, List.length_cons, List.length_nil, Nat.zero_add, Nat.reduceAdd, Nat.reduceLT, if_true, dEq_int, Bool.not_true, Nat.reduceLeDiff]
            simp [pcD]
          · simp only [g_law_short_L0, pSeq, pIfS, tAndP, isB, pBin, pVar, List.reverse_cons, List.map_append, List.map_cons, List.map_nil, List.getElem?_cons_succ, List.getElem?_cons_zero, Sl.isBr, Bool.false_and, Bool.false_eq_true, pLst, dNil, Option.bind_some, List.length_nil, Nat.reduceLeDiff, if_true, pNe, sc2, look, Sl.val, if_false, e0, List.append_eq_nil_iff, reduceCtorEq, and_false, decide_false, Option.map_some, Bool.not_false, pUn, pC, dNeg, pIx, hot, hot1, pEq, Option.any_some, atI_lst, pSet, Bool.true_and, pPop, pAdd, PL.settle, frz, frzAll, pNext, pExpr, pAppend, pTup, dCons, NH.stp]
            simp only [pcD, e, atI_0, Option.map_some, Option.bind_some, List.getElem?_cons_succ, List.getElem?_cons_zero, dEq_str, decide_true, Bool.false_eq_true, List.dropLast_concat, List.set_cons_succ, List.set_cons_zero, get_lst, Bool.false_and, if_false, atI_1, Bool.not_false, Bool.true_or, Bool.and_true, Int.add_comm p.2 q.2, List.length_cons, List.length_nil, Nat.zero_add, Nat.reduceAdd, Nat.reduceLT, if_true, dEq_int, z, decide_false, Nat.reduceLeDiff, List.length_map, List.length_reverse, lb]
            simp [pcD]
        · by_cases z : p.2 = 0
          · simp only [g_law_short_L0, pSeq, pIfS, tAndP, isB, pBin, pVar, List.reverse_cons, List.map_append, List.map_cons, List.map_nil, List.getElem?_cons_succ, List.getElem?_cons_zero, Sl.isBr, Bool.false_and, Bool.false_eq_true, pLst, dNil, Option.bind_some, List.length_nil, Nat.reduceLeDiff, if_true, pNe, sc2, look, Sl.val, if_false, e0, List.append_eq_nil_iff, reduceCtorEq, and_false, decide_false, Option.map_some, Bool.not_false, pUn, pC, dNeg, pIx, hot, hot1, pEq, Option.any_some, atI_lst, pSet, Bool.true_and, pPop, pAdd, PL.settle, frz, frzAll, pNext, pExpr, pAppend, pTup, dCons, NH.stp]
            simp only [pcD, z, atI_0, Option.map_some, Option.bind_some, List.getElem?_cons_succ, List.getElem?_cons_zero, dEq_str, str1_eq, e, decide_false, Bool.false_eq_true, List.dropLast_concat, List.set_cons_succ, List.set_cons_zero, get_lst, Bool.false_and, if_false, atI_1, Bool.not_false, Bool.true_or, Bool.and_true, List.length_cons, List.length_nil, Nat.zero_add, Nat.reduceAdd, Nat.reduceLT, if_true, dEq_int, decide_true, Bool.not_true, Nat.reduceLeDiff]
            simp [pcD]
          · simp only [g_law_short_L0, pSeq, pIfS, tAndP, isB, pBin, pVar, List.reverse_cons, List.map_append, List.map_cons, List.map_nil, List.getElem?_cons_succ, List.getElem?_cons_zero, Sl.isBr, Bool.false_and, Bool.false_eq_true, pLst, dNil, Option.bind_some, List.length_nil, Nat.reduceLeDiff, if_true, pNe, sc2, look, Sl.val, if_false, e0, List.append_eq_nil_iff, reduceCtorEq, and_false, decide_false, Option.map_some, Bool.not_false, pUn, pC, dNeg, pIx, hot, hot1, pEq, Option.any_some, atI_lst, pSet, Bool.true_and, pPop, pAdd, PL.settle, frz, frzAll, pNext, pExpr, pAppend, pTup, dCons, NH.stp]
            simp only [pcD, atI_0, Option.map_some, Option.bind_some, List.getElem?_cons_succ, List.getElem?_cons_zero, dEq_str, str1_eq, e, decide_false, Bool.false_eq_true, List.dropLast_concat, List.set_cons_succ, List.set_cons_zero, List.length_append, List.length_map, List.length_reverse, List.length_cons, List.length_nil, Nat.zero_add, Bool.not_false, Bool.true_or, Bool.and_true, if_false, dEq_int, z, Nat.reduceAdd, Nat.reduceLeDiff, if_true, lb]
            simp [pcD]
    obtain ⟨a', b', e⟩ := step
    have ih := pl_law_short x0 c (NH.stp st p) a' b' (by have := NH.stp_len st p; simp at h; omega) (hs.stp (hc p (List.mem_cons_self ..))) fun q hq => hc q (List.mem_cons_of_mem _ hq)
    obtain ⟨a2, b2, e2⟩ := ih
    refine ⟨a2, b2, ?_⟩
    rw [List.map_cons, pLoop, e]
    exact e2
theorem pv_law_short (c : List Pc) (h : c.length ≤ 100000) (hN : NailsOk c) : fn_law_short [.list (c.map pcD)] = some (.ow ((NH.short c).map pcD)) := by
  obtain ⟨a, b, e⟩ := pl_law_short (.sh (.list (c.map pcD))) c [] .no .no (by simpa using h) nails_nil hN
  simp only [List.reverse_nil, List.map_nil] at e
  simp only [fn_law_short, fnB, List.length_cons, List.length_nil, Nat.zero_add, runB, g_law_short, pSeq, pSet, pLst, dNil, startE, List.map_cons, List.map_nil, Nat.reduceSub, List.replicate, List.cons_append, List.nil_append, Option.bind_some, Nat.reduceLeDiff, if_true, PL.settle, frz, frzAll, Nat.reduceAdd, Nat.reduceLT, List.set_cons_succ, List.set_cons_zero, pFor, iAny, pVar, pRet, List.getElem?_cons_zero, e, List.getElem?_cons_succ, Option.map_some, outS, Clean, flatA_pc, Option.some.injEq]
  rfl
theorem atD_mod {w : List Nat} (h : 0 < w.length) (z : Int) : ∃ y, y ∈ w ∧ atI (w.map stD) (z % (w.length : Int)) = some (.str ⟨#[y]⟩) := by
  have m0 := Int.emod_nonneg z (show (w.length : Int) ≠ 0 by omega)
  have m1 := Int.emod_lt_of_pos z (show (0 : Int) < w.length by omega)
  obtain ⟨i, hi⟩ : ∃ i : Nat, z % (w.length : Int) = i := ⟨(z % (w.length : Int)).toNat, by omega⟩
  refine ⟨w[i]'(by omega), List.getElem_mem _, ?_⟩
  rw [hi, atI_nat', List.getElem?_map, List.getElem?_eq_getElem (by omega)]
  rfl
theorem st_dig (x0 x2 a6 a7 a5 : Sl) (ws : List PyData) (c : List Pc) (rest n k : Int) (y : Nat) (r1 t r2 t' r3 : Int) (hn : (ws.length : Int) = n) (hl : ws.length ≤ 1000000) (n0 : 0 < n) (dn : okDiv n = true) (ey : atI ws (rest % n) = some (.str ⟨#[y]⟩)) (h1 : rest / n = r1) (ht : r1 % 7 - 3 = t) (h2 : r1 / 7 = r2) (d7 : okDiv 7 = true) (d2 : okDiv 2 = true) (d4 : okDiv 4000000000000 = true) (m2 : okMul 2 1000000000000 = true) (m4 : okMul 4 1000000000000 = true) (lb : c.length < 1000000)
    (hw : (t = -3 ∧ r2 % 2 = 1 ∧ t' = r2 / 2 % 2000000000000 - 1000000000000 ∧ r3 = r2 / 4000000000000) ∨ (t = -3 ∧ r2 % 2 ≠ 1 ∧ t' = t ∧ r3 = r2 / 2) ∨ (t ≠ -3 ∧ t' = t ∧ r3 = r2)) :
    (t_law_by_digits_L0 (.int k) [x0, .sh (.list ws), x2, .ow (c.map pcD), .sh (.int rest), a5, a6, a7]).bind g_law_by_digits_L0 = some ([x0, .sh (.list ws), x2, .ow ((c ++ [((y, t') : Pc)]).map pcD), .sh (.int r3), .sh (.int k), .sh (.str ⟨#[y]⟩), .sh (.int t')], .nx) := by
  have m : (c ++ [((y, t') : Pc)]).map pcD = c.map pcD ++ [PyData.tuple [.str ⟨#[y]⟩, .int t']] := by simp [pcD]
  rw [m]
  rcases hw with ⟨h3, h4, rfl, rfl⟩ | ⟨h3, h4, rfl, rfl⟩ | ⟨h3, rfl, rfl⟩
  · simp only [t_law_by_digits_L0, gNameP, List.length_cons, List.length_nil, Nat.zero_add, Nat.reduceAdd, Nat.reduceLT, List.set_cons_succ, List.set_cons_zero, if_true, g_law_by_digits_L0, pMod, pFdiv, pSub, pEq, pPow, Int.reducePow, Int.reduceNeg, Option.bind_some, pSeq, pSet, pBin, pVar, List.getElem?_cons_succ, List.getElem?_cons_zero, Sl.isBr, Bool.false_and, Bool.false_eq_true, pCaS, aCons, aNil, Option.map_some, if_false, dLen, sc2, look, Sl.val, iOp, pIx, hot, hot1, lookA, hn, n0, decide_true, ey, PL.settle, frz, frzAll, pC, pIfS, tAndP, isB, pUn, dNeg, Int.reduceLE, Int.reduceLT, and_self, Int.reduceToNat, pMul, Bool.not_false, Bool.true_or, Bool.and_true, m2, Int.reduceMul, m4, pNext, pExpr, pAppend, pTup, dCons, dNil, dn, h1, ht, d7, h2, dEq_int, eq_true h3, eq_true h4, d2, d4, Nat.reduceLeDiff, List.length_map, lb]
  · simp only [t_law_by_digits_L0, gNameP, List.length_cons, List.length_nil, Nat.zero_add, Nat.reduceAdd, Nat.reduceLT, List.set_cons_succ, List.set_cons_zero, if_true, g_law_by_digits_L0, pMod, pFdiv, pSub, pEq, pPow, Int.reducePow, Int.reduceNeg, Option.bind_some, pSeq, pSet, pBin, pVar, List.getElem?_cons_succ, List.getElem?_cons_zero, Sl.isBr, Bool.false_and, Bool.false_eq_true, pCaS, aCons, aNil, Option.map_some, if_false, dLen, sc2, look, Sl.val, iOp, pIx, hot, hot1, lookA, hn, n0, decide_true, ey, PL.settle, frz, frzAll, pC, pIfS, tAndP, isB, pUn, dNeg, Int.reduceLE, Int.reduceLT, and_self, Int.reduceToNat, pMul, Bool.not_false, Bool.true_or, Bool.and_true, Int.reduceMul, pNext, pExpr, pAppend, pTup, dCons, dNil, dn, h1, ht, d7, h2, dEq_int, eq_true h3, h4, decide_false, d2, Nat.reduceLeDiff, List.length_map, lb]
  · simp only [t_law_by_digits_L0, gNameP, List.length_cons, List.length_nil, Nat.zero_add, Nat.reduceAdd, Nat.reduceLT, List.set_cons_succ, List.set_cons_zero, if_true, g_law_by_digits_L0, pMod, pFdiv, pSub, pEq, pPow, Int.reducePow, Int.reduceNeg, Option.bind_some, pSeq, pSet, pBin, pVar, List.getElem?_cons_succ, List.getElem?_cons_zero, Sl.isBr, Bool.false_and, Bool.false_eq_true, pCaS, aCons, aNil, Option.map_some, if_false, dLen, sc2, look, Sl.val, iOp, pIx, hot, hot1, lookA, hn, n0, decide_true, ey, PL.settle, frz, frzAll, pC, pIfS, tAndP, isB, pUn, dNeg, Int.reduceLE, Int.reduceLT, and_self, Int.reduceToNat, pMul, Bool.not_false, Bool.true_or, Bool.and_true, Int.reduceMul, pNext, pExpr, pAppend, pTup, dCons, dNil, dn, h1, ht, d7, h2, dEq_int, h3, decide_false, Nat.reduceLeDiff, List.length_map, lb]
theorem pl_by_digits (w : List Nat) (hw : 0 < w.length) (hw2 : w.length ≤ 1000) (hn : ∀ a ∈ w, a < 128) (x0 x2 : Sl) : ∀ (k lo : Nat) (rest : Int) (c : List Pc) (a5 a6 a7 : Sl), c.length + k ≤ 1000 → CordOk c →
    ∃ (rest' : Int) (c' : List Pc) (a5' a6' a7' : Sl), pLoop t_law_by_digits_L0 g_law_by_digits_L0 (rngD lo k) [x0, .sh (.list (w.map stD)), x2, .ow (c.map pcD), .sh (.int rest), a5, a6, a7] = some ([x0, .sh (.list (w.map stD)), x2, .ow (c'.map pcD), .sh (.int rest'), a5', a6', a7'], .nx) ∧ c'.length = c.length + k ∧ CordOk c'
  | 0, lo, rest, c, a5, a6, a7, _, hc => ⟨rest, c, a5, a6, a7, rfl, rfl, hc⟩
  | k + 1, lo, rest, c, a5, a6, a7, hl, hc => by
    obtain ⟨y, hy, ey⟩ := atD_mod hw rest
    have m0 := Int.emod_nonneg (rest / (w.length : Int)) (show (7 : Int) ≠ 0 by decide)
    have m1 := Int.emod_lt_of_pos (rest / (w.length : Int)) (show (0 : Int) < 7 by decide)
    obtain ⟨t', r3, hd, hb⟩ : ∃ t' r3 : Int, ((rest / (w.length : Int) % 7 - 3 = -3 ∧ rest / (w.length : Int) / 7 % 2 = 1 ∧ t' = rest / (w.length : Int) / 7 / 2 % 2000000000000 - 1000000000000 ∧ r3 = rest / (w.length : Int) / 7 / 4000000000000) ∨ (rest / (w.length : Int) % 7 - 3 = -3 ∧ rest / (w.length : Int) / 7 % 2 ≠ 1 ∧ t' = rest / (w.length : Int) % 7 - 3 ∧ r3 = rest / (w.length : Int) / 7 / 2) ∨ (rest / (w.length : Int) % 7 - 3 ≠ -3 ∧ t' = rest / (w.length : Int) % 7 - 3 ∧ r3 = rest / (w.length : Int) / 7)) ∧ t'.natAbs < 2 ^ 100 := by
      by_cases h3 : rest / (w.length : Int) % 7 - 3 = -3
      · by_cases h4 : rest / (w.length : Int) / 7 % 2 = 1
        · refine ⟨_, _, Or.inl ⟨h3, h4, rfl, rfl⟩, ?_⟩
          have n0 := Int.emod_nonneg (rest / (w.length : Int) / 7 / 2) (show (2000000000000 : Int) ≠ 0 by decide)
          have n1 := Int.emod_lt_of_pos (rest / (w.length : Int) / 7 / 2) (show (0 : Int) < 2000000000000 by decide)
          generalize rest / (w.length : Int) / 7 / 2 % 2000000000000 = z at n0 n1
          omega
        · refine ⟨_, _, Or.inr (Or.inl ⟨h3, h4, rfl, rfl⟩), ?_⟩
          generalize rest / (w.length : Int) % 7 = z at m0 m1
          omega
      · refine ⟨_, _, Or.inr (Or.inr ⟨h3, rfl, rfl⟩), ?_⟩
        generalize rest / (w.length : Int) % 7 = z at m0 m1
        omega
    have step := st_dig x0 x2 a6 a7 a5 (w.map stD) c rest w.length lo y _ _ _ t' r3 (by simp) (by rw [List.length_map]; omega) (by omega) (okDiv_of (by omega) (by omega)) ey rfl rfl rfl (by decide) (by decide) (by decide) (okMul_l (by decide) (by decide)) (okMul_l (by decide) (by decide)) (by omega) hd
    obtain ⟨r', c', b5, b6, b7, e, l, kk⟩ := pl_by_digits w hw hw2 hn x0 x2 k (lo + 1) r3 (c ++ [((y, t') : Pc)]) (.sh (.int lo)) (.sh (.str ⟨#[y]⟩)) (.sh (.int t')) (by simp; omega) (hc.append fun q hq => by rw [List.mem_singleton.mp hq]; exact ⟨hn y hy, hb⟩)
    refine ⟨r', c', b5, b6, b7, ?_, by rw [l]; simp; omega, kk⟩
    rw [rngD_succ, pLoop, step]
    exact e
theorem st_bd (cell M q r : Int) (ws C : List PyData) (n : Nat) (b4 b5 b6 b7 : Sl) (m1 : M + 1 ≠ 0) (p1 : 0 < M + 1) (dM : okDiv (M + 1) = true) (hq : cell / (M + 1) = q) (hr : cell % (M + 1) = r) (o1 : -1000000 ≤ r) (o2 : r ≤ 1000000) (hn : r.toNat = n) (e : pLoop t_law_by_digits_L0 g_law_by_digits_L0 (rngD 0 n) [.sh (.int cell), .sh (.list ws), .sh (.int M), .ow [], .sh (.int q), .no, .no, .no] = some ([.sh (.int cell), .sh (.list ws), .sh (.int M), .ow C, b4, b5, b6, b7], .nx)) (fC : flatA C = true) : fn_law_by_digits [.int cell, .list ws, .int M] = some (.ow C) := by
  simp only [fn_law_by_digits, fnB, List.length_cons, List.length_nil, Nat.zero_add, Nat.reduceAdd, runB, g_law_by_digits, pSeq, pSet, pLst, dNil, startE, List.map_cons, List.map_nil, Nat.reduceSub, List.replicate, List.cons_append, List.nil_append, Option.bind_some, Nat.reduceLeDiff, if_true, PL.settle, frz, frzAll, Nat.reduceLT, List.set_cons_succ, List.set_cons_zero, pBin, pVar, Sl.isBr, Bool.false_and, Bool.false_eq_true, pC, pAdd, look, Sl.val, hot, hot1, Bool.not_false, Bool.true_or, Bool.and_true, if_false, pFdiv, sc2, iOp, pFor, iRng1P, aCons, pMod, aNil, Option.map_some, pRet, List.getElem?_cons_zero, List.getElem?_cons_succ, dM, hq, p1, decide_true, hr, lookA, o1, o2, and_self, hn, e, outS, Clean, fC]
theorem pv_by_digits (w : List Nat) (hw : 0 < w.length) (hw2 : w.length ≤ 1000) (hn : ∀ a ∈ w, a < 128) (cell : Int) (most : Nat) (hm : most ≤ 100) : ∃ c : List Pc, fn_law_by_digits [.int cell, .list (w.map stD), .int most] = some (.ow (c.map pcD)) ∧ c.length ≤ most ∧ CordOk c := by
  have m0 := Int.emod_nonneg cell (show (most : Int) + 1 ≠ 0 by omega)
  have m1 := Int.emod_lt_of_pos cell (show (0 : Int) < (most : Int) + 1 by omega)
  obtain ⟨n, hn'⟩ : ∃ n : Nat, cell % ((most : Int) + 1) = n := ⟨(cell % ((most : Int) + 1)).toNat, by omega⟩
  obtain ⟨r', c', b5, b6, b7, e, l, k⟩ := pl_by_digits w hw hw2 hn (.sh (.int cell)) (.sh (.int most)) n 0 (cell / ((most : Int) + 1)) [] .no .no .no (by simp; omega) cord_nil
  simp only [List.map_nil, Int.natCast_zero] at e
  exact ⟨c', st_bd cell most _ n _ _ n _ _ _ _ (by omega) (by omega) (okDiv_of (by omega) (by omega)) rfl hn' (by omega) (by omega) (by simp) e (flatA_pc _), by rw [l]; simp; omega, k⟩
theorem img_len_slide {n m : Nat} {t : Int} {p : Pc} (h : p.1 = n) : (img (.slide n m t) p).length = 2 * p.2.natAbs := by
  simp only [img, h, if_true]
  split <;> (rw [NH.pw_len]; simp [Nat.mul_comm])
theorem pl_one_move (x0 : Sl) (mv : Mv) : ∀ (c f : List Pc) (a b s : Sl), f.length + (c.flatMap (img mv)).length ≤ 100000 → ∃ a' b' s', pLoop t_law_one_move_L0 g_law_one_move_L0 (c.map pcD) [x0, .sh (mvD mv), .ow (f.map pcD), a, b, s] = some ([x0, .sh (mvD mv), .ow ((f ++ c.flatMap (img mv)).map pcD), a', b', s'], .nx)
  | [], f, a, b, s, _ => ⟨a, b, s, by simp [pLoop]⟩
  | p :: c, f, a, b, s, h => by
    rw [List.flatMap_cons, List.length_append] at h
    have step : ∃ s1, (t_law_one_move_L0 (pcD p) [x0, .sh (mvD mv), .ow (f.map pcD), a, b, s]).bind g_law_one_move_L0 = some ([x0, .sh (mvD mv), .ow ((f ++ img mv p).map pcD), .sh (.str ⟨#[p.1]⟩), .sh (.int p.2), s1], .nx) := by
      cases mv with
      | turn n => exact ⟨s, st_mv_t x0 a b s n p f (by omega)⟩
      | change n m => exact ⟨s, st_mv_c x0 a b s n m p f (by omega)⟩
      | slide n m t => exact st_mv_s x0 a b s n m t p f (by omega) fun z => by rw [img_len_slide z] at h; omega
    obtain ⟨s1, e⟩ := step
    obtain ⟨a2, b2, s2, e2⟩ := pl_one_move x0 mv c (f ++ img mv p) (.sh (.str ⟨#[p.1]⟩)) (.sh (.int p.2)) s1 (by rw [List.length_append]; omega)
    refine ⟨a2, b2, s2, ?_⟩
    rw [List.map_cons, pLoop, e, List.flatMap_cons, ← List.append_assoc]
    exact e2
theorem st_one_move (x0 : List PyData) (m : PyData) (F : List PyData) (L : List PyData) (a b s : Sl) (lp : pLoop t_law_one_move_L0 g_law_one_move_L0 x0 [.sh (.list x0), .sh m, .ow [], .no, .no, .no] = some ([.sh (.list x0), .sh m, .ow F, a, b, s], .nx)) (e : fn_law_short [.list F] = some (.ow L)) (fL : flatA L = true) : fn_law_one_move [.list x0, m] = some (.ow L) := by
  simp only [fn_law_one_move, fnB, List.length_cons, List.length_nil, Nat.zero_add, Nat.reduceAdd, runB, g_law_one_move, pSeq, pSet, pLst, dNil, startE, List.map_cons, List.map_nil, Nat.reduceSub, List.replicate, List.cons_append, List.nil_append, Option.bind_some, Nat.reduceLeDiff, if_true, PL.settle, frz, frzAll, Nat.reduceLT, List.set_cons_succ, List.set_cons_zero, pFor, iAny, pVar, pRet, pCall, aCons, Sl.isBr, Bool.false_and, Bool.false_eq_true, aNil, Option.map_some, if_false, List.getElem?_cons_zero, lp, List.getElem?_cons_succ, lookA, look, Sl.val, e, outS, Clean, fL]
theorem pv_one_move (c : List Pc) (mv : Mv) (h : (c.flatMap (img mv)).length ≤ 100000) (hn : NailsOk (c.flatMap (img mv))) : fn_law_one_move [.list (c.map pcD), mvD mv] = some (.ow ((NH.short (c.flatMap (img mv))).map pcD)) := by
  obtain ⟨a, b, s, e⟩ := pl_one_move (.sh (.list (c.map pcD))) mv c [] .no .no .no (by simpa using h)
  simp only [List.map_nil, List.nil_append] at e
  exact st_one_move _ _ _ _ a b s e (pv_law_short _ h hn) (flatA_pc _)
theorem st_wide (n : Nat) (x : PyData) (mv : PyData) (p : Pc) (h : ∃ r, mv = .tuple (x :: .str ⟨#[n]⟩ :: r)) : e_law_wide_C0 [.sh (.str ⟨#[p.1]⟩), .sh (.int p.2), .sh mv] = some (.sh (.int (if p.1 = n then 2 * (p.2.natAbs : Int) else 1)), [.sh (.str ⟨#[p.1]⟩), .sh (.int p.2), .sh mv]) := by
  obtain ⟨r, rfl⟩ := h
  have a0 : (if p.2 < 0 then -p.2 else p.2) = (p.2.natAbs : Int) := by split <;> omega
  have m2 : ∀ i : Int, okMul 2 i = true := fun i => okMul_l (by decide) (by decide)
  by_cases e : p.1 = n
  · simp only [e_law_wide_C0, pIf, isB, pBin, pVar, e, List.getElem?_cons_zero, Sl.isBr, Bool.false_and, Bool.false_eq_true, pC, pIx, look, Sl.val, hot, hot1, Option.bind_some, if_false, pEq, sc2, List.getElem?_cons_succ, atI_1, Option.map_some, dEq_str, decide_true, pCaS, aCons, aNil, dAbs, pMul, Int.reduceNeg, Bool.not_false, Bool.true_or, Bool.and_true, lookA, a0, m2, if_true]
  · simp only [e_law_wide_C0, pIf, isB, pBin, pVar, List.getElem?_cons_zero, Sl.isBr, Bool.false_and, Bool.false_eq_true, pC, pIx, look, Sl.val, hot, hot1, Option.bind_some, if_false, pEq, sc2, List.getElem?_cons_succ, atI_1, Option.map_some, dEq_str, str1_eq, e, decide_false, pCaS, aCons, aNil, dAbs, pMul, Int.reduceNeg, Bool.not_false, Bool.true_or, Bool.and_true, lookA]
noncomputable def wid (n : Nat) (c : List Pc) : Int := (c.map fun p => if p.1 = n then 2 * (p.2.natAbs : Int) else 1).sum
theorem pc_wide (n : Nat) (x : PyData) (mv : PyData) (h : ∃ r, mv = .tuple (x :: .str ⟨#[n]⟩ :: r)) : ∀ (c : List Pc) (a b : Sl), cLoop t_law_wide_C0 tYesP e_law_wide_C0 (c.map pcD) [a, b, .sh mv] = some ((c.map fun p => if p.1 = n then 2 * (p.2.natAbs : Int) else 1).map .int)
  | [], a, b => rfl
  | p :: c, a, b => by
    have e : t_law_wide_C0 (pcD p) [a, b, .sh mv] = some [.sh (.str ⟨#[p.1]⟩), .sh (.int p.2), .sh mv] := rfl
    rw [List.map_cons, List.map_cons, List.map_cons]
    exact cl_cons e (st_wide n x mv p h) (pc_wide n x mv h c _ _)
theorem ints_L : ∀ zs : List Int, intsL (zs.map .int) = some zs
  | [] => rfl
  | z :: zs => by simp only [List.map_cons, intsL, ints_L zs, Option.map_some]
theorem flat_ints : ∀ zs : List Int, flatA (zs.map .int) = true
  | [] => rfl
  | z :: zs => by simp [flatA, flat, flat_ints zs]
theorem st_widev (ds : List PyData) (mv : PyData) (zs : List Int) (l : zs.length ≤ 1000000) (k : cLoop t_law_wide_C0 tYesP e_law_wide_C0 ds [.no, .no, .sh mv] = some (zs.map .int)) : fn_law_wide [.list ds, mv] = some (.sh (.int zs.sum)) := by
  have fl := flat_ints zs
  have il := ints_L zs
  simp only [fn_law_wide, fnB, List.length_cons, List.length_nil, Nat.zero_add, Nat.reduceAdd, runB, g_law_wide, pRet, pCaS, aCons, pComp, iAny, pVar, startE, List.map_cons, List.map_nil, Nat.sub_self, List.replicate, List.cons_append, List.nil_append, List.getElem?_cons_zero, frz, Option.bind_some, slotsE, slotE, List.getElem?_cons_succ, Sl.val, k, fl, List.length_map, l, decide_true, Bool.and_true, if_true, Sl.isBr, Bool.false_and, Bool.false_eq_true, aNil, Option.map_some, if_false, dSum, lookA, look, il, outS, Clean, flat]
theorem pv_law_wide (n m : Nat) (t : Int) (c : List Pc) (hl : c.length ≤ 100000) : fn_law_wide [.list (c.map pcD), mvD (.slide n m t)] = some (.sh (.int (wid n c))) :=
  st_widev _ _ _ (by simp; omega) (pc_wide n _ _ ⟨_, rfl⟩ c .no .no)
theorem wid_le {n m : Nat} {t : Int} : ∀ c : List Pc, ((c.flatMap (img (.slide n m t))).length : Int) ≤ wid n c
  | [] => by simp [wid]
  | p :: c => by
    have ih := wid_le (n := n) (m := m) (t := t) c
    rw [List.flatMap_cons, List.length_append]
    unfold wid at ih ⊢
    rw [List.map_cons, List.sum_cons]
    by_cases h : p.1 = n
    · rw [img_len_slide h, if_pos h]
      omega
    · have : (img (.slide n m t) p).length = 1 := by simp [img, h]
      rw [this, if_neg h]
      omega
theorem step_at' : ∀ i, i < 12 → ∃ v : Int, [PyData.int 1, .int 3, .int 5, .int 7, .int 9, .int 11, .int 15, .int 17, .int 19, .int 21, .int 23, .int 25][i]? = some (.int v) ∧ 0 ≤ v ∧ v ≤ 100 ∧ ∀ d : Nat, 1 ≤ d → d < 26 → ((d : Int) * v) % 26 ≠ 0
  | 0, _ => ⟨1, rfl, by decide, by decide, by omega⟩
  | 1, _ => ⟨3, rfl, by decide, by decide, by omega⟩
  | 2, _ => ⟨5, rfl, by decide, by decide, by omega⟩
  | 3, _ => ⟨7, rfl, by decide, by decide, by omega⟩
  | 4, _ => ⟨9, rfl, by decide, by decide, by omega⟩
  | 5, _ => ⟨11, rfl, by decide, by decide, by omega⟩
  | 6, _ => ⟨15, rfl, by decide, by decide, by omega⟩
  | 7, _ => ⟨17, rfl, by decide, by decide, by omega⟩
  | 8, _ => ⟨19, rfl, by decide, by decide, by omega⟩
  | 9, _ => ⟨21, rfl, by decide, by decide, by omega⟩
  | 10, _ => ⟨23, rfl, by decide, by decide, by omega⟩
  | 11, _ => ⟨25, rfl, by decide, by decide, by omega⟩
noncomputable def nailAt (cell step : Int) (k : Nat) : Nat := 97 + ((cell + (k : Int) * step) % 26).toNat
theorem nailAt_inj {cell step : Int} (hs : ∀ d : Nat, 1 ≤ d → d < 26 → ((d : Int) * step) % 26 ≠ 0) {j k : Nat} (h : j < k) (hk : k < 26) : nailAt cell step j ≠ nailAt cell step k := by
  intro e
  unfold nailAt at e
  have m0 := Int.emod_nonneg (cell + (k : Int) * step) (show (26 : Int) ≠ 0 by decide)
  have n0 := Int.emod_nonneg (cell + (j : Int) * step) (show (26 : Int) ≠ 0 by decide)
  have e2 : (cell + (k : Int) * step) % 26 = (cell + (j : Int) * step) % 26 := by omega
  have e3 := Int.emod_eq_emod_iff_emod_sub_eq_zero.mp e2
  apply hs (k - j) (by omega) (by omega)
  rw [← e3]
  congr 1
  rw [show ((k - j : Nat) : Int) = (k : Int) - j by omega, Int.sub_mul]
  omega
theorem pc_nails' (cell step : Int) (h1 : 0 ≤ step) (h2 : step ≤ 100) : ∀ (n lo : Nat) (x : Sl), cLoop t_law_nails_C0 tYesP e_law_nails_C0 (rngD lo n) [x, .sh (.str "abcdefghijklmnopqrstuvwxyz"), .sh (.int cell), .sh (.int step)] = some (((List.range' lo n).map (nailAt cell step)).map stD)
  | 0, lo, x => rfl
  | n + 1, lo, x => by
    have e := pc_nails' cell step h1 h2 n (lo + 1) (.sh (.int lo))
    have s := st_nails cell step lo (okMul_r (by omega) (by omega))
    have t : t_law_nails_C0 (.int lo) [x, .sh (.str "abcdefghijklmnopqrstuvwxyz"), .sh (.int cell), .sh (.int step)] = some [.sh (.int lo), .sh (.str "abcdefghijklmnopqrstuvwxyz"), .sh (.int cell), .sh (.int step)] := rfl
    rw [show ((lo + 1 : Nat) : Int) = (lo : Int) + 1 by omega] at e
    rw [rngD_succ, List.range'_succ, List.map_cons, List.map_cons]
    exact cl_cons t s e
theorem cl_yes {tg : PGv} {cond : PTv} {elt : PEv} {d r : PyData} {ds rs : List PyData} {E E1 : List Sl} (t : tg d E = some E1) (c : cond E1 = some (true, E1)) (el : elt E1 = some (.sh r, E1)) (h : cLoop tg cond elt ds E1 = some rs) : cLoop tg cond elt (d :: ds) E = some (r :: rs) := by
  rw [cLoop, t, Option.bind_some, c]
  simp only [Option.bind_some, el, frz, h, Option.map_some, if_true]
theorem cl_no {tg : PGv} {cond : PTv} {elt : PEv} {d : PyData} {ds rs : List PyData} {E E1 : List Sl} (t : tg d E = some E1) (c : cond E1 = some (false, E1)) (h : cLoop tg cond elt ds E1 = some rs) : cLoop tg cond elt (d :: ds) E = some rs := by
  rw [cLoop, t, Option.bind_some, c]
  simp only [Option.bind_some, h, Bool.false_eq_true, if_false]
theorem pc_moves (y : Nat) : ∀ (w : List Nat) (x : Sl), cLoop t_law_moves_C1 c_law_moves_C1 e_law_moves_C1 (w.map stD) [x, .sh (.str ⟨#[y]⟩)] = some ((w.filter fun a => decide (a ≠ y)).map stD)
  | [], x => rfl
  | a :: w, x => by
    have t : t_law_moves_C1 (stD a) [x, .sh (.str ⟨#[y]⟩)] = some [.sh (stD a), .sh (.str ⟨#[y]⟩)] := rfl
    have el : e_law_moves_C1 [.sh (stD a), .sh (.str ⟨#[y]⟩)] = some (.sh (stD a), [.sh (stD a), .sh (.str ⟨#[y]⟩)]) := rfl
    by_cases h : a = y
    · have c : c_law_moves_C1 [.sh (stD a), .sh (.str ⟨#[y]⟩)] = some (false, [.sh (stD a), .sh (.str ⟨#[y]⟩)]) := by
        simp only [c_law_moves_C1, isB, pBin, pVar, stD, List.getElem?_cons_zero, Sl.isBr, Bool.false_and, Bool.false_eq_true, pNe, sc2, look, Sl.val, if_false, Option.bind_some, List.getElem?_cons_succ, dEq_str, str1_eq, eq_true h, decide_true, Option.map_some, Bool.not_true]
      rw [List.map_cons, List.filter_cons, if_neg (by simp [h])]
      exact cl_no t c (pc_moves y w _)
    · have c : c_law_moves_C1 [.sh (stD a), .sh (.str ⟨#[y]⟩)] = some (true, [.sh (stD a), .sh (.str ⟨#[y]⟩)]) := by
        simp only [c_law_moves_C1, isB, pBin, pVar, stD, List.getElem?_cons_zero, Sl.isBr, Bool.false_and, Bool.false_eq_true, pNe, sc2, look, Sl.val, if_false, Option.bind_some, List.getElem?_cons_succ, dEq_str, str1_eq, h, decide_false, Option.map_some, Bool.not_false]
      rw [List.map_cons, List.filter_cons, if_pos (by simp [h]), List.map_cons]
      exact cl_yes t c el (pc_moves y w _)
theorem filt_len {w : List Nat} (hn : w.Nodup) {y : Nat} (hy : y ∈ w) : (w.filter fun a => decide (a ≠ y)).length + 1 = w.length := by
  induction w with
  | nil => cases hy
  | cons a w ih =>
    obtain ⟨h1, h2⟩ := List.nodup_cons.mp hn
    rcases List.mem_cons.mp hy with rfl | hy
    · rw [List.filter_cons, if_neg (by simp), List.filter_eq_self.mpr fun b hb => by simpa using fun z : b = y => h1 (z ▸ hb)]
      simp
    · have ne : a ≠ y := fun z => h1 (z ▸ hy)
      rw [List.filter_cons, if_pos (by simpa using ne)]
      simp only [List.length_cons]
      rw [ih h2 hy]
noncomputable def MvOk (w : List Nat) : Mv → Prop
  | .turn n => n ∈ w
  | .change n m => n ∈ w ∧ m ∈ w ∧ n ≠ m
  | .slide n m t => n ∈ w ∧ m ∈ w ∧ n ≠ m ∧ -2 ≤ t ∧ t ≤ 2
theorem flat_mv : ∀ ms : List Mv, flatA (ms.map mvD) = true
  | [] => rfl
  | mv :: ms => by cases mv <;> simp [flatA, flat, flat_mv ms, mvD]
noncomputable def mvOf (cell : Int) (y y2 : Nat) : Mv := if cell % 4 = 0 then .turn y else if cell % 4 = 1 then .change y y2 else .slide y y2 (cell / 256 % 5 - 2)
noncomputable def g_moves_r : PSv := (pSeq (pIfS (isB (pBin pEq false (pBin pMod false (pVar 8) (pC (.int 4))) (pC (.int 0))))
  (pExpr (pAppend 4 (pTup (dCons (pC (.str "turn")) (dCons (pVar 9) dNil)))))
  (pIfS (isB (pBin pEq false (pBin pMod false (pVar 8) (pC (.int 4))) (pC (.int 1))))
  (pExpr (pAppend 4 (pTup (dCons (pC (.str "change")) (dCons (pVar 9) (dCons (pVar 10) dNil))))))
  (pExpr (pAppend 4 (pTup (dCons (pC (.str "slide")) (dCons (pVar 9) (dCons (pVar 10) (dCons (pBin pSub false (pBin pMod false (pBin pFdiv false (pVar 8) (pC (.int 256))) (pC (.int 5))) (pC (.int 2))) dNil)))))))))
  (pSet 5 (pBin pFdiv false (pVar 5) (pC (.int 1280)))))
theorem st_moves_r (x0 x1 x2 x3 x6 x7 : Sl) (ms : List Mv) (rest cell : Int) (y y2 : Nat) (lb : ms.length < 1000000) (d1 : okDiv 256 = true) (d2 : okDiv 1280 = true) : g_moves_r [x0, x1, x2, x3, .ow (ms.map mvD), .sh (.int rest), x6, x7, .sh (.int cell), .sh (.str ⟨#[y]⟩), .sh (.str ⟨#[y2]⟩)] = some ([x0, x1, x2, x3, .ow ((ms ++ [mvOf cell y y2]).map mvD), .sh (.int (rest / 1280)), x6, x7, .sh (.int cell), .sh (.str ⟨#[y]⟩), .sh (.str ⟨#[y2]⟩)], .nx) := by
  have m : (ms ++ [mvOf cell y y2]).map mvD = ms.map mvD ++ [mvD (mvOf cell y y2)] := by simp
  rw [m]
  unfold mvOf
  by_cases h0 : cell % 4 = 0
  · simp only [g_moves_r, pSeq, pIfS, isB, pBin, pVar, List.getElem?_cons_succ, List.getElem?_cons_zero, Sl.isBr, Bool.false_and, Bool.false_eq_true, pC, pMod, sc2, look, Sl.val, iOp, Option.bind_some, if_false, Int.reduceLT, decide_true, h0, if_true, Option.map_some, pEq, dEq_int, pExpr, pAppend, pTup, dCons, frz, dNil, pFdiv, pSub, List.length_cons, List.length_nil, Nat.zero_add, Nat.reduceAdd, Nat.reduceLeDiff, List.length_map, lb, List.set_cons_succ, List.set_cons_zero, Int.reduceEq, decide_false, pSet, PL.settle, frzAll, d2, Nat.reduceLT, mvD]
  · by_cases h1 : cell % 4 = 1
    · simp only [g_moves_r, pSeq, pIfS, isB, pBin, pVar, List.getElem?_cons_succ, List.getElem?_cons_zero, Sl.isBr, Bool.false_and, Bool.false_eq_true, pC, pMod, sc2, look, Sl.val, iOp, Option.bind_some, if_false, Int.reduceLT, decide_true, h1, if_true, Option.map_some, pEq, dEq_int, Int.reduceEq, decide_false, pExpr, pAppend, pTup, dCons, frz, dNil, pFdiv, pSub, List.length_cons, List.length_nil, Nat.zero_add, Nat.reduceAdd, Nat.reduceLeDiff, List.length_map, lb, List.set_cons_succ, List.set_cons_zero, pSet, PL.settle, frzAll, d2, Nat.reduceLT, mvD]
    · simp only [g_moves_r, pSeq, pIfS, isB, pBin, pVar, List.getElem?_cons_succ, List.getElem?_cons_zero, Sl.isBr, Bool.false_and, Bool.false_eq_true, pC, pMod, sc2, look, Sl.val, iOp, Option.bind_some, if_false, Int.reduceLT, decide_true, if_true, Option.map_some, pEq, dEq_int, h0, decide_false, pExpr, pAppend, pTup, dCons, frz, dNil, pFdiv, pSub, List.length_cons, List.length_nil, Nat.zero_add, Nat.reduceAdd, Nat.reduceLeDiff, List.length_map, lb, List.set_cons_succ, List.set_cons_zero, h1, d1, pSet, PL.settle, frzAll, d2, Nat.reduceLT, mvD]
theorem st_moves (x0 : PyData) (x3 a7 a8 a9 a10 : Sl) (ms : List Mv) (w : List Nat) (f rest k z u cell n m : Int) (dg : Bool) (y y2 : Nat) (W2 : List PyData) (ea : fn_law_at [x0, .int (f + 1 + k)] = some (.sh (.int z))) (es : fn_law_stir [.int z, .int k] = some (.sh (.int u))) (hc : (if dg then rest else u) = cell) (hn : ((w.map stD).length : Int) = n) (hl : (w.map stD).length ≤ 1000000) (n0 : 0 < n) (hm : n - 1 = m) (m0 : 0 < m) (d4 : okDiv 4 = true) (d32 : okDiv 32 = true) (i1 : atI (w.map stD) (cell / 4 % n) = some (.str ⟨#[y]⟩)) (cl : cLoop t_law_moves_C1 c_law_moves_C1 e_law_moves_C1 (w.map stD) [.no, .sh (.str ⟨#[y]⟩)] = some W2) (fl : flatA W2 = true) (lW : W2.length ≤ 1000000) (i2 : atI W2 (cell / 32 % m) = some (.str ⟨#[y2]⟩)) (lb : ms.length < 1000000) :
    (t_law_moves_L0 (.int k) [.sh x0, .sh (.int f), .sh (.list (w.map stD)), x3, .ow (ms.map mvD), .sh (.int rest), .sh (.bool dg), a7, a8, a9, a10]).bind g_law_moves_L0 = some ([.sh x0, .sh (.int f), .sh (.list (w.map stD)), x3, .ow ((ms ++ [mvOf cell y y2]).map mvD), .sh (.int (rest / 1280)), .sh (.bool dg), .sh (.int k), .sh (.int cell), .sh (.str ⟨#[y]⟩), .sh (.str ⟨#[y2]⟩)], .nx) := by
  have gl : g_law_moves_L0 = pSeq (pSet 8 (pVar 5)) (pSeq (pIfS (tNotP (pTru (pVar 6))) (pSet 8 (pCall fn_law_stir (aCons false (pCall fn_law_at (aCons false (pVar 0) (aCons false (pBin pAdd false (pBin pAdd false (pVar 1) (pC (.int 1))) (pVar 7)) aNil))) (aCons false (pVar 7) aNil)))) pNext)
    (pSeq (pSet 9 (pBin pIx false (pVar 2) (pBin pMod false (pBin pFdiv false (pVar 8) (pC (.int 4))) (pCaS dLen (aCons false (pVar 2) aNil)))))
    (pSeq (pSet 10 (pBin pIx false (pComp [none, some 9] (iAny (pVar 2)) t_law_moves_C1 c_law_moves_C1 e_law_moves_C1) (pBin pMod false (pBin pFdiv false (pVar 8) (pC (.int 32))) (pBin pSub false (pCaS dLen (aCons false (pVar 2) aNil)) (pC (.int 1)))))) g_moves_r))) := rfl
  have tt : t_law_moves_L0 (.int k) [.sh x0, .sh (.int f), .sh (.list (w.map stD)), x3, .ow (ms.map mvD), .sh (.int rest), .sh (.bool dg), a7, a8, a9, a10] = some [.sh x0, .sh (.int f), .sh (.list (w.map stD)), x3, .ow (ms.map mvD), .sh (.int rest), .sh (.bool dg), .sh (.int k), a8, a9, a10] := rfl
  have s8 : pSet 8 (pVar 5) [.sh x0, .sh (.int f), .sh (.list (w.map stD)), x3, .ow (ms.map mvD), .sh (.int rest), .sh (.bool dg), .sh (.int k), a8, a9, a10] = some ([.sh x0, .sh (.int f), .sh (.list (w.map stD)), x3, .ow (ms.map mvD), .sh (.int rest), .sh (.bool dg), .sh (.int k), .sh (.int rest), a9, a10], .nx) := by
    simp only [pSet, pVar, List.getElem?_cons_succ, List.getElem?_cons_zero, PL.settle, frz, frzAll, Option.bind_some, List.length_cons, List.length_nil, Nat.zero_add, Nat.reduceAdd, Nat.reduceLT, List.set_cons_succ, List.set_cons_zero, if_true]
  have si : (pIfS (tNotP (pTru (pVar 6))) (pSet 8 (pCall fn_law_stir (aCons false (pCall fn_law_at (aCons false (pVar 0) (aCons false (pBin pAdd false (pBin pAdd false (pVar 1) (pC (.int 1))) (pVar 7)) aNil))) (aCons false (pVar 7) aNil)))) pNext) [.sh x0, .sh (.int f), .sh (.list (w.map stD)), x3, .ow (ms.map mvD), .sh (.int rest), .sh (.bool dg), .sh (.int k), .sh (.int rest), a9, a10] = some ([.sh x0, .sh (.int f), .sh (.list (w.map stD)), x3, .ow (ms.map mvD), .sh (.int rest), .sh (.bool dg), .sh (.int k), .sh (.int cell), a9, a10], .nx) := by
    cases dg with
    | true =>
      simp only [if_true] at hc
      subst hc
      simp only [pIfS, tNotP, pTru, pVar, List.getElem?_cons_succ, List.getElem?_cons_zero, Sl.val, Option.bind_some, dTru, Option.map_some, Bool.not_true, pSet, pCall, aCons, Sl.isBr, Bool.false_and, Bool.false_eq_true, pBin, pC, pAdd, look, hot, hot1, Bool.not_false, Bool.true_or, Bool.and_true, if_false, aNil, PL.settle, frz, frzAll, pNext, lookA]
    | false =>
      simp only [Bool.false_eq_true, if_false] at hc
      subst hc
      simp only [pIfS, tNotP, pTru, pVar, List.getElem?_cons_succ, List.getElem?_cons_zero, Sl.val, Option.bind_some, dTru, Option.map_some, Bool.not_false, pSet, pCall, aCons, Sl.isBr, Bool.false_and, Bool.false_eq_true, pBin, pC, pAdd, look, hot, hot1, Bool.true_or, Bool.and_true, if_false, aNil, PL.settle, frz, frzAll, pNext, lookA, ea, es, List.length_cons, List.length_nil, Nat.zero_add, Nat.reduceAdd, Nat.reduceLT, List.set_cons_succ, List.set_cons_zero, if_true]
  have s9 : pSet 9 (pBin pIx false (pVar 2) (pBin pMod false (pBin pFdiv false (pVar 8) (pC (.int 4))) (pCaS dLen (aCons false (pVar 2) aNil)))) [.sh x0, .sh (.int f), .sh (.list (w.map stD)), x3, .ow (ms.map mvD), .sh (.int rest), .sh (.bool dg), .sh (.int k), .sh (.int cell), a9, a10] = some ([.sh x0, .sh (.int f), .sh (.list (w.map stD)), x3, .ow (ms.map mvD), .sh (.int rest), .sh (.bool dg), .sh (.int k), .sh (.int cell), .sh (.str ⟨#[y]⟩), a10], .nx) := by
    simp only [pSet, pBin, pVar, List.getElem?_cons_succ, List.getElem?_cons_zero, Sl.isBr, Bool.false_and, Bool.false_eq_true, pC, pFdiv, sc2, look, Sl.val, iOp, Option.bind_some, if_false, pCaS, aCons, aNil, Option.map_some, dLen, pMod, pIx, hot, hot1, d4, if_true, lookA, hn, n0, decide_true, i1, PL.settle, frz, frzAll, List.length_cons, List.length_nil, Nat.zero_add, Nat.reduceAdd, Nat.reduceLT, List.set_cons_succ, List.set_cons_zero]
  have s10 : pSet 10 (pBin pIx false (pComp [none, some 9] (iAny (pVar 2)) t_law_moves_C1 c_law_moves_C1 e_law_moves_C1) (pBin pMod false (pBin pFdiv false (pVar 8) (pC (.int 32))) (pBin pSub false (pCaS dLen (aCons false (pVar 2) aNil)) (pC (.int 1))))) [.sh x0, .sh (.int f), .sh (.list (w.map stD)), x3, .ow (ms.map mvD), .sh (.int rest), .sh (.bool dg), .sh (.int k), .sh (.int cell), .sh (.str ⟨#[y]⟩), a10] = some ([.sh x0, .sh (.int f), .sh (.list (w.map stD)), x3, .ow (ms.map mvD), .sh (.int rest), .sh (.bool dg), .sh (.int k), .sh (.int cell), .sh (.str ⟨#[y]⟩), .sh (.str ⟨#[y2]⟩)], .nx) := by
    simp only [pSet, pBin, pComp, iAny, pVar, List.getElem?_cons_succ, List.getElem?_cons_zero, frz, Option.bind_some, slotsE, List.map_cons, slotE, List.map_nil, Sl.val, cl, fl, lW, decide_true, Bool.and_true, if_true, Sl.isBr, Bool.false_and, Bool.false_eq_true, pC, pFdiv, sc2, look, iOp, if_false, pCaS, aCons, aNil, Option.map_some, dLen, pSub, pMod, pIx, hot, hot1, d32, lookA, hn, hm, m0, i2, PL.settle, frzAll, List.length_cons, List.length_nil, Nat.zero_add, Nat.reduceAdd, Nat.reduceLT, List.set_cons_succ, List.set_cons_zero]
  rw [tt, Option.bind_some, gl, seq_nx s8, seq_nx si, seq_nx s9, seq_nx s10]
  exact st_moves_r _ _ _ _ _ _ ms rest cell y y2 lb (by decide) (by decide)
theorem mvOf_ok {w : List Nat} (cell : Int) {y y2 : Nat} (h1 : y ∈ w) (h2 : y2 ∈ w) (ne : y ≠ y2) : MvOk w (mvOf cell y y2) := by
  unfold mvOf
  have m0 := Int.emod_nonneg (cell / 256) (show (5 : Int) ≠ 0 by decide)
  have m1 := Int.emod_lt_of_pos (cell / 256) (show (0 : Int) < 5 by decide)
  split
  · exact h1
  · split
    · exact ⟨h1, h2, ne⟩
    · generalize cell / 256 % 5 = z at m0 m1
      exact ⟨h1, h2, ne, by omega, by omega⟩
theorem pl_moves (ns : List Int) (x3 : Sl) (first : Nat) (w : List Nat) (w2 : 2 ≤ w.length) (w3 : w.length ≤ 1000) (wn : w.Nodup) (dg : Bool) : ∀ (k lo : Nat) (rest : Int) (ms : List Mv) (a7 a8 a9 a10 : Sl), lo + k ≤ 1000 → ms.length + k ≤ 1000 → (∀ mv ∈ ms, MvOk w mv) →
    ∃ (rest' : Int) (ms' : List Mv) (b7 b8 b9 b10 : Sl), pLoop t_law_moves_L0 g_law_moves_L0 (rngD lo k) [.sh (.list (ns.map .int)), .sh (.int first), .sh (.list (w.map stD)), x3, .ow (ms.map mvD), .sh (.int rest), .sh (.bool dg), a7, a8, a9, a10] = some ([.sh (.list (ns.map .int)), .sh (.int first), .sh (.list (w.map stD)), x3, .ow (ms'.map mvD), .sh (.int rest'), .sh (.bool dg), b7, b8, b9, b10], .nx) ∧ ms'.length = ms.length + k ∧ ∀ mv ∈ ms', MvOk w mv
  | 0, lo, rest, ms, a7, a8, a9, a10, _, _, h => ⟨rest, ms, a7, a8, a9, a10, rfl, rfl, h⟩
  | k + 1, lo, rest, ms, a7, a8, a9, a10, hlo, hl, h => by
    have ea := pv_law_at ns (first + 1 + lo)
    rw [show ((first + 1 + lo : Nat) : Int) = (first : Int) + 1 + lo by omega] at ea
    obtain ⟨u, es⟩ := pv_law_stir (ns.getD (first + 1 + lo) 0) lo (by omega) (by omega)
    obtain ⟨cell, hc⟩ : ∃ cell : Int, (if dg then rest else u) = cell := ⟨_, rfl⟩
    obtain ⟨y, hy, i1⟩ := atD_mod (w := w) (by omega) (cell / 4)
    have fl := filt_len wn hy
    obtain ⟨y2, hy2, i2⟩ := atD_mod (w := w.filter fun a => decide (a ≠ y)) (by omega) (cell / 32)
    obtain ⟨hm1, hm2⟩ := List.mem_filter.mp hy2
    have ne : y ≠ y2 := fun z => of_decide_eq_true hm2 z.symm
    have step := st_moves (.list (ns.map .int)) x3 a7 a8 a9 a10 ms w first rest lo (ns.getD (first + 1 + lo) 0) u cell w.length ((w.filter fun a => decide (a ≠ y)).length : Int) dg y y2 _ ea es hc (by simp) (by rw [List.length_map]; omega) (by omega) (by omega) (by omega) (by decide) (by decide) i1 (pc_moves y w .no) (flat_stD _) (by rw [List.length_map]; omega) i2 (by omega)
    obtain ⟨r', ms', b7, b8, b9, b10, e, l, kk⟩ := pl_moves ns x3 first w w2 w3 wn dg k (lo + 1) (rest / 1280) (ms ++ [mvOf cell y y2]) (.sh (.int lo)) (.sh (.int cell)) (.sh (.str ⟨#[y]⟩)) (.sh (.str ⟨#[y2]⟩)) (by omega) (by simp; omega) (fun mv hmv => by
      rcases List.mem_append.mp hmv with z | z
      · exact h mv z
      · rw [List.mem_singleton.mp z]; exact mvOf_ok cell hy hm1 ne)
    refine ⟨r', ms', b7, b8, b9, b10, ?_, by rw [l]; simp; omega, kk⟩
    rw [rngD_succ, pLoop, step]
    exact e
theorem st_mvs (x0 : PyData) (f M z : Int) (ws C : List PyData) (n : Nat) (dg : Bool) (b5 b7 b8 b9 b10 : Sl) (ea : fn_law_at [x0, .int f] = some (.sh (.int z))) (hd : dg = !(decide (-1000000000000000000 < z) && decide (z < 1000000000000000000))) (o1 : -1000000 ≤ M) (o2 : M ≤ 1000000) (hn : M.toNat = n) (e : pLoop t_law_moves_L0 g_law_moves_L0 (rngD 0 n) [.sh x0, .sh (.int f), .sh (.list ws), .sh (.int M), .ow [], .sh (.int z), .sh (.bool dg), .no, .no, .no, .no] = some ([.sh x0, .sh (.int f), .sh (.list ws), .sh (.int M), .ow C, b5, .sh (.bool dg), b7, b8, b9, b10], .nx)) (fC : flatA C = true) : fn_law_moves [x0, .int f, .list ws, .int M] = some (.ow C) := by
  subst hd
  by_cases h1 : -1000000000000000000 < z
  · by_cases h2 : z < 1000000000000000000
    · simp only [h1, h2, decide_true, Bool.and_self, Bool.not_true] at e
      simp only [fn_law_moves, fnB, List.length_cons, List.length_nil, Nat.zero_add, Nat.reduceAdd, runB, g_law_moves, pSeq, pSet, pLst, dNil, startE, List.map_cons, List.map_nil, Nat.reduceSub, List.replicate, List.cons_append, List.nil_append, Option.bind_some, Nat.reduceLeDiff, if_true, PL.settle, frz, frzAll, Nat.reduceLT, List.set_cons_succ, List.set_cons_zero, pCall, aCons, pVar, Sl.isBr, Bool.false_and, Bool.false_eq_true, aNil, Option.map_some, if_false, pUn, pChain, pBin, pC, pPow, sc2, look, Sl.val, iOp, Int.reducePow, Int.reduceNeg, Int.reduceLE, Int.reduceLT, and_self, decide_true, Int.reduceToNat, dNeg, Bool.or_false, dCmp, Cm.i, Cm.s, dNot, pFor, iRng1P, pRet, List.getElem?_cons_zero, List.getElem?_cons_succ, lookA, ea, h2, h1, Bool.not_true, o1, o2, hn, e, outS, Clean, fC]
    · simp only [h1, h2, decide_true, decide_false, Bool.and_false, Bool.not_false] at e
      simp only [fn_law_moves, fnB, List.length_cons, List.length_nil, Nat.zero_add, Nat.reduceAdd, runB, g_law_moves, pSeq, pSet, pLst, dNil, startE, List.map_cons, List.map_nil, Nat.reduceSub, List.replicate, List.cons_append, List.nil_append, Option.bind_some, Nat.reduceLeDiff, if_true, PL.settle, frz, frzAll, Nat.reduceLT, List.set_cons_succ, List.set_cons_zero, pCall, aCons, pVar, Sl.isBr, Bool.false_and, Bool.false_eq_true, aNil, Option.map_some, if_false, pUn, pChain, pBin, pC, pPow, sc2, look, Sl.val, iOp, Int.reducePow, Int.reduceNeg, Int.reduceLE, Int.reduceLT, and_self, decide_true, Int.reduceToNat, dNeg, Bool.or_false, dCmp, Cm.i, Cm.s, dNot, pFor, iRng1P, pRet, List.getElem?_cons_zero, List.getElem?_cons_succ, lookA, ea, h2, decide_false, h1, Bool.not_false, o1, o2, hn, e, outS, Clean, fC]
  · simp only [h1, decide_false, Bool.false_and, Bool.not_false] at e
    simp only [fn_law_moves, fnB, List.length_cons, List.length_nil, Nat.zero_add, Nat.reduceAdd, runB, g_law_moves, pSeq, pSet, pLst, dNil, startE, List.map_cons, List.map_nil, Nat.reduceSub, List.replicate, List.cons_append, List.nil_append, Option.bind_some, Nat.reduceLeDiff, if_true, PL.settle, frz, frzAll, Nat.reduceLT, List.set_cons_succ, List.set_cons_zero, pCall, aCons, pVar, Sl.isBr, Bool.false_and, Bool.false_eq_true, aNil, Option.map_some, if_false, pUn, pChain, pBin, pC, pPow, sc2, look, Sl.val, iOp, Int.reducePow, Int.reduceNeg, Int.reduceLE, Int.reduceLT, and_self, decide_true, Int.reduceToNat, dNeg, Bool.or_false, dCmp, Cm.i, Cm.s, dNot, pFor, iRng1P, pRet, List.getElem?_cons_zero, List.getElem?_cons_succ, lookA, ea, h1, decide_false, Bool.not_false, o1, o2, hn, e, outS, Clean, fC]
theorem pv_law_moves (ns : List Int) (first : Nat) (hf : first ≤ 100) (w : List Nat) (w2 : 2 ≤ w.length) (w3 : w.length ≤ 1000) (wn : w.Nodup) (many : Nat) (hm : many ≤ 100) : ∃ ms : List Mv, fn_law_moves [.list (ns.map .int), .int first, .list (w.map stD), .int many] = some (.ow (ms.map mvD)) ∧ ms.length = many ∧ ∀ mv ∈ ms, MvOk w mv := by
  have ea := pv_law_at ns first
  obtain ⟨r', ms', b7, b8, b9, b10, e, l, k⟩ := pl_moves ns (.sh (.int many)) first w w2 w3 wn (!(decide (-1000000000000000000 < ns.getD first 0) && decide (ns.getD first 0 < 1000000000000000000))) many 0 (ns.getD first 0) [] .no .no .no .no (by omega) (by simp; omega) (fun mv hmv => by cases hmv)
  simp only [List.map_nil, Int.natCast_zero] at e
  exact ⟨ms', st_mvs _ _ _ _ _ _ many _ _ _ _ _ _ ea rfl (by omega) (by omega) (by simp) e (flat_mv _), by simpa using l, k⟩
noncomputable def g_built_w : PSv := (pIfS (tOrP (isB (pBin pEq false (pVar 9) (pC (.int 1)))) (isB (pBin pEq false (pVar 9) (pC (.int 2)))))
  (pSet 4 (pBin pAdd false (pBin pAdd false (pBin pAdd false (pVar 4) (pVar 7)) (pCall fn_law_back (aCons false (pVar 4) aNil))) (pCall fn_law_back (aCons false (pVar 7) aNil))))
  (pIfS (isB (pBin pEq false (pVar 9) (pC (.int 3))))
  (pSet 4 (pBin pAdd false (pBin pAdd false (pVar 7) (pVar 4)) (pCall fn_law_back (aCons false (pVar 7) aNil))))
  (pIfS (isB (pBin pEq false (pVar 9) (pC (.int 4))))
  (pSeq (pSet 10 (pBin pMod false (pBin pFdiv false (pVar 6) (pC (.int 3001))) (pBin pAdd false (pCaS dLen (aCons false (pVar 4) aNil)) (pC (.int 1)))))
  (pSet 4 (pBin pAdd false (pBin pAdd false (pBin pAdd false (pBin pAdd false (pCut false (pVar 4) oNone (oSome (pVar 10))) (pVar 8)) (pLst (dCons (pTup (dCons (pBin pIx false (pBin pIx false (pVar 7) (pC (.int 0))) (pC (.int 0))) (dCons (pC (.int 0)) dNil))) dNil))) (pCall fn_law_back (aCons false (pVar 8) aNil))) (pCut false (pVar 4) (oSome (pVar 10)) oNone))))
  (pIfS (isB (pBin pEq false (pVar 9) (pC (.int 5))))
  (pSet 4 (pBin pAdd false (pBin pAdd false (pBin pAdd false (pBin pAdd false (pVar 4) (pVar 8)) (pVar 7)) (pCall fn_law_back (aCons false (pVar 8) aNil))) (pCall fn_law_back (aCons false (pVar 7) aNil))))
  (pSet 4 (pBin pAdd false (pVar 4) (pVar 7)))))))
section
variable (x0 x1 x2 x3 x5 x10 : Sl) (cell way : Int) (c : List Pc) (p o : Pc) (bc bp bo : List Pc) (hl : c.length ≤ 10000) (hbc : bc.length ≤ 10000) (hbp : bp.length ≤ 1) (hbo : bo.length ≤ 1) (e1 : fn_law_back [.list (c.map pcD)] = some (.ow (bc.map pcD))) (e2 : fn_law_back [.list ([p].map pcD)] = some (.ow (bp.map pcD))) (e3 : fn_law_back [.list ([o].map pcD)] = some (.ow (bo.map pcD)))
include hl hbc hbp hbo e1 e2 e3
theorem st_bw12 (h : way = 1 ∨ way = 2) : g_built_w [x0, x1, x2, x3, .ow (c.map pcD), x5, .sh (.int cell), .ow ([p].map pcD), .ow ([o].map pcD), .sh (.int way), x10] = some ([x0, x1, x2, x3, .ow ((c ++ [p] ++ bc ++ bp).map pcD), x5, .sh (.int cell), .ow ([p].map pcD), .ow ([o].map pcD), .sh (.int way), x10], .nx) := by
  have l1 : c.length + [p].length ≤ 1000000 := by simp; omega
  have l2 : (c ++ [p]).length + bc.length ≤ 1000000 := by simp; omega
  have l3 : (c ++ [p] ++ bc).length + bp.length ≤ 1000000 := by simp; omega
  generalize hP : [p] = P at *
  rcases h with h | h
  · subst h
    simp only [g_built_w, pIfS, tOrP, isB, pBin, pVar, List.map_cons, List.map_nil, List.getElem?_cons_succ, List.getElem?_cons_zero, Sl.isBr, Bool.false_and, Bool.false_eq_true, pC, pEq, sc2, look, Sl.val, Option.bind_some, if_false, dEq_int, decide_true, Option.map_some, Int.reduceEq, decide_false, if_true, pSet, pAdd, hot, hot1, pCall, aCons, aNil, PL.settle, frz, frzAll, pSeq, pFdiv, iOp, pCaS, dLen, Bool.not_false, Bool.true_or, Bool.and_true, pMod, pCut, oNone, oSome, pLst, dCons, pTup, pIx, dNil, Option.any_some, List.length_map, l1, ← List.map_append, lookA, e1, l2, e2, l3, List.length_cons, List.length_nil, Nat.zero_add, Nat.reduceAdd, Nat.reduceLT, List.set_cons_succ, List.set_cons_zero, Nat.reduceLeDiff]
  · subst h
    simp only [g_built_w, pIfS, tOrP, isB, pBin, pVar, List.map_cons, List.map_nil, List.getElem?_cons_succ, List.getElem?_cons_zero, Sl.isBr, Bool.false_and, Bool.false_eq_true, pC, pEq, sc2, look, Sl.val, Option.bind_some, if_false, dEq_int, Int.reduceEq, decide_false, Option.map_some, decide_true, pSet, pAdd, hot, hot1, pCall, aCons, aNil, PL.settle, frz, frzAll, pSeq, pFdiv, iOp, pCaS, dLen, Bool.not_false, Bool.true_or, Bool.and_true, pMod, pCut, oNone, oSome, pLst, dCons, pTup, pIx, dNil, Option.any_some, List.length_map, l1, ← List.map_append, if_true, lookA, e1, l2, e2, l3, List.length_cons, List.length_nil, Nat.zero_add, Nat.reduceAdd, Nat.reduceLT, List.set_cons_succ, List.set_cons_zero, Nat.reduceLeDiff]
theorem st_bw3 (h : way = 3) : g_built_w [x0, x1, x2, x3, .ow (c.map pcD), x5, .sh (.int cell), .ow ([p].map pcD), .ow ([o].map pcD), .sh (.int way), x10] = some ([x0, x1, x2, x3, .ow (([p] ++ c ++ bp).map pcD), x5, .sh (.int cell), .ow ([p].map pcD), .ow ([o].map pcD), .sh (.int way), x10], .nx) := by
  have l1 : [p].length + c.length ≤ 1000000 := by simp; omega
  have l2 : ([p] ++ c).length + bp.length ≤ 1000000 := by simp; omega
  generalize hP : [p] = P at *
  subst h
  simp only [g_built_w, pIfS, tOrP, isB, pBin, pVar, List.map_cons, List.map_nil, List.getElem?_cons_succ, List.getElem?_cons_zero, Sl.isBr, Bool.false_and, Bool.false_eq_true, pC, pEq, sc2, look, Sl.val, Option.bind_some, if_false, dEq_int, Int.reduceEq, decide_false, Option.map_some, pSet, pAdd, hot, hot1, pCall, aCons, aNil, PL.settle, frz, frzAll, pSeq, pFdiv, iOp, pCaS, dLen, Bool.not_false, Bool.true_or, Bool.and_true, pMod, pCut, oNone, oSome, pLst, dCons, pTup, pIx, dNil, Option.any_some, List.length_map, ← List.map_append, decide_true, l1, if_true, lookA, e2, l2, List.length_cons, List.length_nil, Nat.zero_add, Nat.reduceAdd, Nat.reduceLT, List.set_cons_succ, List.set_cons_zero, Nat.reduceLeDiff]
theorem st_bw5 (h : way = 5) : g_built_w [x0, x1, x2, x3, .ow (c.map pcD), x5, .sh (.int cell), .ow ([p].map pcD), .ow ([o].map pcD), .sh (.int way), x10] = some ([x0, x1, x2, x3, .ow ((c ++ [o] ++ [p] ++ bo ++ bp).map pcD), x5, .sh (.int cell), .ow ([p].map pcD), .ow ([o].map pcD), .sh (.int way), x10], .nx) := by
  have l1 : c.length + [o].length ≤ 1000000 := by simp; omega
  have l2 : (c ++ [o]).length + [p].length ≤ 1000000 := by simp; omega
  have l3 : (c ++ [o] ++ [p]).length + bo.length ≤ 1000000 := by simp; omega
  have l4 : (c ++ [o] ++ [p] ++ bo).length + bp.length ≤ 1000000 := by simp; omega
  generalize hP : [p] = P at *
  generalize hO : [o] = O at *
  subst h
  simp only [g_built_w, pIfS, tOrP, isB, pBin, pVar, List.getElem?_cons_succ, List.getElem?_cons_zero, Sl.isBr, Bool.false_and, Bool.false_eq_true, pC, pEq, sc2, look, Sl.val, Option.bind_some, if_false, dEq_int, Int.reduceEq, decide_false, Option.map_some, pSet, pAdd, hot, hot1, pCall, aCons, aNil, PL.settle, frz, frzAll, pSeq, pFdiv, iOp, pCaS, dLen, Bool.not_false, Bool.true_or, Bool.and_true, pMod, pCut, oNone, oSome, pLst, dCons, pTup, pIx, dNil, Option.any_some, List.length_map, ← List.map_append, decide_true, l1, if_true, l2, lookA, e3, l3, e2, l4, List.length_cons, List.length_nil, Nat.zero_add, Nat.reduceAdd, Nat.reduceLT, List.set_cons_succ, List.set_cons_zero]
theorem st_bw0 (h1 : way ≠ 1) (h2 : way ≠ 2) (h3 : way ≠ 3) (h4 : way ≠ 4) (h5 : way ≠ 5) : g_built_w [x0, x1, x2, x3, .ow (c.map pcD), x5, .sh (.int cell), .ow ([p].map pcD), .ow ([o].map pcD), .sh (.int way), x10] = some ([x0, x1, x2, x3, .ow ((c ++ [p]).map pcD), x5, .sh (.int cell), .ow ([p].map pcD), .ow ([o].map pcD), .sh (.int way), x10], .nx) := by
  have l1 : c.length + [p].length ≤ 1000000 := by simp; omega
  generalize hP : [p] = P at *
  simp only [g_built_w, pIfS, tOrP, isB, pBin, pVar, List.map_cons, List.map_nil, List.getElem?_cons_succ, List.getElem?_cons_zero, Sl.isBr, Bool.false_and, Bool.false_eq_true, pC, pEq, sc2, look, Sl.val, Option.bind_some, if_false, dEq_int, h1, decide_false, Option.map_some, h2, pSet, pAdd, hot, hot1, pCall, aCons, aNil, PL.settle, frz, frzAll, pSeq, pFdiv, iOp, pCaS, dLen, Bool.not_false, Bool.true_or, Bool.and_true, pMod, pCut, oNone, oSome, pLst, dCons, pTup, pIx, dNil, Option.any_some, List.length_map, l1, decide_true, ← List.map_append, if_true, lookA, h3, h4, h5, List.length_cons, List.length_nil, Nat.zero_add, Nat.reduceLeDiff, Nat.reduceAdd, Nat.reduceLT, List.set_cons_succ, List.set_cons_zero]
theorem st_bw4 (q n : Int) (d : okDiv 3001 = true) (hn : (c.length : Int) + 1 = n) (n0 : 0 < n) (hq : cell / 3001 % n = q) (h : way = 4) : ∃ s10, g_built_w [x0, x1, x2, x3, .ow (c.map pcD), x5, .sh (.int cell), .ow ([p].map pcD), .ow ([o].map pcD), .sh (.int way), x10] = some ([x0, x1, x2, x3, .ow ((cutL c none (some q) ++ [o] ++ [((p.1, 0) : Pc)] ++ bo ++ cutL c (some q) none).map pcD), x5, .sh (.int cell), .ow ([p].map pcD), .ow ([o].map pcD), .sh (.int way), s10], .nx) := by
  have k1 := cutL_len c none (some q)
  have k2 := cutL_len c (some q) none
  have lc : c.length ≤ 1000000 := by omega
  have l1 : (cutL c none (some q)).length + [o].length ≤ 1000000 := by simp; omega
  have l2 : (cutL c none (some q) ++ [o]).length + 1 ≤ 1000000 := by simp; omega
  have l3 : (cutL c none (some q) ++ [o] ++ [((p.1, 0) : Pc)]).length + bo.length ≤ 1000000 := by simp; omega
  have l4 : (cutL c none (some q) ++ [o] ++ [((p.1, 0) : Pc)] ++ bo).length + (cutL c (some q) none).length ≤ 1000000 := by simp; omega
  have m : ∀ X : List Pc, X.map pcD ++ [PyData.tuple [.str ⟨#[p.1]⟩, .int 0]] = (X ++ [((p.1, 0) : Pc)]).map pcD := fun X => by simp [pcD]
  have hp : [p].map pcD = [PyData.tuple [.str ⟨#[p.1]⟩, .int p.2]] := rfl
  generalize hO : [o] = O at *
  rw [hp] at e2 ⊢
  subst h
  refine ⟨.sh (.int q), ?_⟩
  simp only [g_built_w, pIfS, tOrP, isB, pBin, pVar, List.getElem?_cons_succ, List.getElem?_cons_zero, Sl.isBr, Bool.false_and, Bool.false_eq_true, pC, pEq, sc2, look, Sl.val, Option.bind_some, if_false, dEq_int, Int.reduceEq, decide_false, Option.map_some, pSet, pAdd, hot, hot1, pCall, aCons, aNil, PL.settle, frz, frzAll, pSeq, pFdiv, iOp, pCaS, dLen, Bool.not_false, Bool.true_or, Bool.and_true, pMod, pCut, oNone, oSome, pLst, dCons, pTup, pIx, dNil, Option.any_some, List.length_map, List.length_cons, List.length_nil, Nat.zero_add, Nat.reduceLeDiff, List.cons_append, List.nil_append, decide_true, d, if_true, lookA, hn, n0, hq, Nat.reduceAdd, Nat.reduceLT, List.set_cons_succ, List.set_cons_zero, cutD_map, flatA_pc, Bool.or_true, l1, ← List.map_append, atI_0, l2, m, e3, l3, l4]
end
theorem st_ba (x1 : Sl) (sc ws : List PyData) (most k z cell u t n wy : Int) (y1 y2 : Nat) (c : List Pc) (a5 a6 a7 a8 a9 a10 : Sl) (ea : fn_law_at [.list sc, .int k] = some (.sh (.int z))) (es : fn_law_stir [.int (z + k), .int k] = some (.sh (.int cell))) (eu : fn_law_stir [.int z, .int (50 + k)] = some (.sh (.int u))) (et : fn_law_turns [.int u] = some (.sh (.int t))) (hn : (ws.length : Int) = n) (hl : ws.length ≤ 1000000) (n0 : 0 < n) (d7 : okDiv 7 = true) (d53 : okDiv 53 = true) (d401 : okDiv 401 = true) (d2 : okDiv 2 = true) (i1 : atI ws (cell / 7 % n) = some (.str ⟨#[y1]⟩)) (i2 : atI ws (cell / 53 % n) = some (.str ⟨#[y2]⟩)) (lc : c.length ≤ 1000000) (L : Int) (hL : (c.length : Int) = L) (hw : (most / 2 - 4 < L ∧ wy = 0) ∨ (¬ most / 2 - 4 < L ∧ wy = cell % 7)) :
    (t_law_built_L0 (.int k) [.sh (.list sc), x1, .sh (.list ws), .sh (.int most), .ow (c.map pcD), a5, a6, a7, a8, a9, a10]).bind g_law_built_L0 = g_built_w [.sh (.list sc), x1, .sh (.list ws), .sh (.int most), .ow (c.map pcD), .sh (.int k), .sh (.int cell), .ow ([((y1, t) : Pc)].map pcD), .ow ([((y2, 1 + cell / 401 % 3) : Pc)].map pcD), .sh (.int wy), a10] := by
  have gl : g_law_built_L0 = pSeq (pSet 6 (pCall fn_law_stir (aCons false (pBin pAdd false (pCall fn_law_at (aCons false (pVar 0) (aCons false (pVar 5) aNil))) (pVar 5)) (aCons false (pVar 5) aNil))))
    (pSeq (pSet 7 (pLst (dCons (pTup (dCons (pBin pIx false (pVar 2) (pBin pMod false (pBin pFdiv false (pVar 6) (pC (.int 7))) (pCaS dLen (aCons false (pVar 2) aNil)))) (dCons (pCall fn_law_turns (aCons false (pCall fn_law_stir (aCons false (pCall fn_law_at (aCons false (pVar 0) (aCons false (pVar 5) aNil))) (aCons false (pBin pAdd false (pC (.int 50)) (pVar 5)) aNil))) aNil)) dNil))) dNil)))
    (pSeq (pSet 8 (pLst (dCons (pTup (dCons (pBin pIx false (pVar 2) (pBin pMod false (pBin pFdiv false (pVar 6) (pC (.int 53))) (pCaS dLen (aCons false (pVar 2) aNil)))) (dCons (pBin pAdd false (pC (.int 1)) (pBin pMod false (pBin pFdiv false (pVar 6) (pC (.int 401))) (pC (.int 3)))) dNil))) dNil)))
    (pSeq (pSet 9 (pBin pMod false (pVar 6) (pC (.int 7))))
    (pSeq (pIfS (isB (pBin (sc2 (dCmp .gt)) false (pCaS dLen (aCons false (pVar 4) aNil)) (pBin pSub false (pBin pFdiv false (pVar 3) (pC (.int 2))) (pC (.int 4))))) (pSet 9 (pC (.int 0))) pNext) g_built_w)))) := rfl
  have tt : t_law_built_L0 (.int k) [.sh (.list sc), x1, .sh (.list ws), .sh (.int most), .ow (c.map pcD), a5, a6, a7, a8, a9, a10] = some [.sh (.list sc), x1, .sh (.list ws), .sh (.int most), .ow (c.map pcD), .sh (.int k), a6, a7, a8, a9, a10] := rfl
  have s6 : pSet 6 (pCall fn_law_stir (aCons false (pBin pAdd false (pCall fn_law_at (aCons false (pVar 0) (aCons false (pVar 5) aNil))) (pVar 5)) (aCons false (pVar 5) aNil))) [.sh (.list sc), x1, .sh (.list ws), .sh (.int most), .ow (c.map pcD), .sh (.int k), a6, a7, a8, a9, a10] = some ([.sh (.list sc), x1, .sh (.list ws), .sh (.int most), .ow (c.map pcD), .sh (.int k), .sh (.int cell), a7, a8, a9, a10], .nx) := by
    simp only [pSet, pCall, aCons, pBin, pVar, List.getElem?_cons_zero, Sl.isBr, Bool.false_and, Bool.false_eq_true, aNil, Option.map_some, if_false, Option.bind_some, List.getElem?_cons_succ, lookA, look, Sl.val, ea, pAdd, hot, hot1, Bool.not_false, Bool.true_or, Bool.and_true, es, PL.settle, frz, frzAll, List.length_cons, List.length_nil, Nat.zero_add, Nat.reduceAdd, Nat.reduceLT, List.set_cons_succ, List.set_cons_zero, if_true]
  have s7 : pSet 7 (pLst (dCons (pTup (dCons (pBin pIx false (pVar 2) (pBin pMod false (pBin pFdiv false (pVar 6) (pC (.int 7))) (pCaS dLen (aCons false (pVar 2) aNil)))) (dCons (pCall fn_law_turns (aCons false (pCall fn_law_stir (aCons false (pCall fn_law_at (aCons false (pVar 0) (aCons false (pVar 5) aNil))) (aCons false (pBin pAdd false (pC (.int 50)) (pVar 5)) aNil))) aNil)) dNil))) dNil)) [.sh (.list sc), x1, .sh (.list ws), .sh (.int most), .ow (c.map pcD), .sh (.int k), .sh (.int cell), a7, a8, a9, a10] = some ([.sh (.list sc), x1, .sh (.list ws), .sh (.int most), .ow (c.map pcD), .sh (.int k), .sh (.int cell), .ow ([((y1, t) : Pc)].map pcD), a8, a9, a10], .nx) := by
    simp only [pSet, pLst, dCons, pTup, pBin, pVar, List.getElem?_cons_succ, List.getElem?_cons_zero, Sl.isBr, Bool.false_and, Bool.false_eq_true, pC, pFdiv, sc2, look, Sl.val, iOp, Option.bind_some, if_false, pCaS, aCons, aNil, Option.map_some, dLen, pMod, pIx, hot, hot1, d7, if_true, lookA, hn, n0, decide_true, i1, frz, pCall, pAdd, Bool.not_false, Bool.true_or, Bool.and_true, dNil, ea, eu, et, List.length_cons, List.length_nil, Nat.zero_add, Nat.reduceAdd, Nat.reduceLeDiff, PL.settle, frzAll, Nat.reduceLT, List.set_cons_succ, List.set_cons_zero, List.map_cons, pcD, List.map_nil]
  have s8 : pSet 8 (pLst (dCons (pTup (dCons (pBin pIx false (pVar 2) (pBin pMod false (pBin pFdiv false (pVar 6) (pC (.int 53))) (pCaS dLen (aCons false (pVar 2) aNil)))) (dCons (pBin pAdd false (pC (.int 1)) (pBin pMod false (pBin pFdiv false (pVar 6) (pC (.int 401))) (pC (.int 3)))) dNil))) dNil)) [.sh (.list sc), x1, .sh (.list ws), .sh (.int most), .ow (c.map pcD), .sh (.int k), .sh (.int cell), .ow ([((y1, t) : Pc)].map pcD), a8, a9, a10] = some ([.sh (.list sc), x1, .sh (.list ws), .sh (.int most), .ow (c.map pcD), .sh (.int k), .sh (.int cell), .ow ([((y1, t) : Pc)].map pcD), .ow ([((y2, 1 + cell / 401 % 3) : Pc)].map pcD), a9, a10], .nx) := by
    simp only [pSet, pLst, dCons, pTup, pBin, pVar, List.map_cons, pcD, List.map_nil, List.getElem?_cons_succ, List.getElem?_cons_zero, Sl.isBr, Bool.false_and, Bool.false_eq_true, pC, pFdiv, sc2, look, Sl.val, iOp, Option.bind_some, if_false, pCaS, aCons, aNil, Option.map_some, dLen, pMod, pIx, hot, hot1, d53, if_true, lookA, hn, n0, decide_true, i2, frz, pAdd, Bool.not_false, Bool.true_or, Bool.and_true, dNil, d401, Int.reduceLT, List.length_cons, List.length_nil, Nat.zero_add, Nat.reduceAdd, Nat.reduceLeDiff, PL.settle, frzAll, Nat.reduceLT, List.set_cons_succ, List.set_cons_zero]
  have s9 : pSet 9 (pBin pMod false (pVar 6) (pC (.int 7))) [.sh (.list sc), x1, .sh (.list ws), .sh (.int most), .ow (c.map pcD), .sh (.int k), .sh (.int cell), .ow ([((y1, t) : Pc)].map pcD), .ow ([((y2, 1 + cell / 401 % 3) : Pc)].map pcD), a9, a10] = some ([.sh (.list sc), x1, .sh (.list ws), .sh (.int most), .ow (c.map pcD), .sh (.int k), .sh (.int cell), .ow ([((y1, t) : Pc)].map pcD), .ow ([((y2, 1 + cell / 401 % 3) : Pc)].map pcD), .sh (.int (cell % 7)), a10], .nx) := by
    simp only [pSet, pBin, pVar, List.map_cons, List.map_nil, List.getElem?_cons_succ, List.getElem?_cons_zero, Sl.isBr, Bool.false_and, Bool.false_eq_true, pC, pMod, sc2, look, Sl.val, iOp, Option.bind_some, if_false, Int.reduceLT, decide_true, if_true, Option.map_some, PL.settle, frz, frzAll, List.length_cons, List.length_nil, Nat.zero_add, Nat.reduceAdd, Nat.reduceLT, List.set_cons_succ, List.set_cons_zero]
  have si : (pIfS (isB (pBin (sc2 (dCmp .gt)) false (pCaS dLen (aCons false (pVar 4) aNil)) (pBin pSub false (pBin pFdiv false (pVar 3) (pC (.int 2))) (pC (.int 4))))) (pSet 9 (pC (.int 0))) pNext) [.sh (.list sc), x1, .sh (.list ws), .sh (.int most), .ow (c.map pcD), .sh (.int k), .sh (.int cell), .ow ([((y1, t) : Pc)].map pcD), .ow ([((y2, 1 + cell / 401 % 3) : Pc)].map pcD), .sh (.int (cell % 7)), a10] = some ([.sh (.list sc), x1, .sh (.list ws), .sh (.int most), .ow (c.map pcD), .sh (.int k), .sh (.int cell), .ow ([((y1, t) : Pc)].map pcD), .ow ([((y2, 1 + cell / 401 % 3) : Pc)].map pcD), .sh (.int wy), a10], .nx) := by
    rcases hw with ⟨h, rfl⟩ | ⟨h, rfl⟩
    · simp only [pIfS, isB, pBin, pCaS, aCons, pVar, List.map_cons, List.map_nil, List.getElem?_cons_succ, List.getElem?_cons_zero, Sl.isBr, Bool.false_and, Bool.false_eq_true, aNil, Option.map_some, if_false, Option.bind_some, dLen, lookA, look, Sl.val, List.length_map, hL, pC, pFdiv, sc2, iOp, pSub, if_true, dCmp, Cm.i, Cm.s, d2, h, decide_true, pSet, PL.settle, frz, frzAll, pNext, List.length_cons, List.length_nil, Nat.zero_add, Nat.reduceAdd, Nat.reduceLT, List.set_cons_succ, List.set_cons_zero]
    · simp only [pIfS, isB, pBin, pCaS, aCons, pVar, List.map_cons, List.map_nil, List.getElem?_cons_succ, List.getElem?_cons_zero, Sl.isBr, Bool.false_and, Bool.false_eq_true, aNil, Option.map_some, if_false, Option.bind_some, dLen, lookA, look, Sl.val, List.length_map, hL, pC, pFdiv, sc2, iOp, pSub, if_true, dCmp, Cm.i, Cm.s, d2, h, decide_false, pSet, PL.settle, frz, frzAll, pNext, List.length_cons, List.length_nil, Nat.zero_add, Nat.reduceAdd, Nat.reduceLT, List.set_cons_succ, List.set_cons_zero]
  rw [tt, Option.bind_some, gl, seq_nx s6, seq_nx s7, seq_nx s8, seq_nx s9, seq_nx si]
theorem pl_built (ns : List Int) (x1 : Sl) (w : List Nat) (hw : 0 < w.length) (hw2 : w.length ≤ 1000) (hn : ∀ a ∈ w, a < 128) (most : Nat) (hm : most ≤ 100) : ∀ (k lo : Nat) (c : List Pc) (a5 a6 a7 a8 a9 a10 : Sl), lo + k ≤ 1000 → k ≤ 50 → c.length + k ≤ most + 100 → CordOk c →
    ∃ (c' : List Pc) (b5 b6 b7 b8 b9 b10 : Sl), pLoop t_law_built_L0 g_law_built_L0 (rngD lo k) [.sh (.list (ns.map .int)), x1, .sh (.list (w.map stD)), .sh (.int most), .ow (c.map pcD), a5, a6, a7, a8, a9, a10] = some ([.sh (.list (ns.map .int)), x1, .sh (.list (w.map stD)), .sh (.int most), .ow (c'.map pcD), b5, b6, b7, b8, b9, b10], .nx) ∧ c'.length ≤ most + 100 ∧ CordOk c'
  | 0, lo, c, a5, a6, a7, a8, a9, a10, _, _, hc, kc => ⟨c, a5, a6, a7, a8, a9, a10, rfl, by omega, kc⟩
  | k + 1, lo, c, a5, a6, a7, a8, a9, a10, hlo, hk, hc, kc => by
    have ea := pv_law_at ns lo
    obtain ⟨cell, es⟩ := pv_law_stir (ns.getD lo 0 + lo) lo (by omega) (by omega)
    obtain ⟨u, eu⟩ := pv_law_stir (ns.getD lo 0) (50 + lo) (by omega) (by omega)
    obtain ⟨t, et, tb⟩ := pv_law_turns u
    obtain ⟨y1, h1, i1⟩ := atD_mod hw (cell / 7)
    obtain ⟨y2, h2, i2⟩ := atD_mod hw (cell / 53)
    have e3m := Int.emod_nonneg (cell / 401) (show (3 : Int) ≠ 0 by decide)
    have e3n := Int.emod_lt_of_pos (cell / 401) (show (0 : Int) < 3 by decide)
    have kp : CordOk [((y1, t) : Pc)] := fun q hq => by rw [List.mem_singleton.mp hq]; exact ⟨hn y1 h1, tb⟩
    have kz : CordOk [((y1, 0) : Pc)] := fun q hq => by rw [List.mem_singleton.mp hq]; exact ⟨hn y1 h1, by show (0 : Int).natAbs < 2 ^ 100; decide⟩
    have ko : CordOk [((y2, 1 + cell / 401 % 3) : Pc)] := fun q hq => by
      rw [List.mem_singleton.mp hq]
      refine ⟨hn y2 h2, ?_⟩
      show (1 + cell / 401 % 3).natAbs < 2 ^ 100
      generalize cell / 401 % 3 = z at e3m e3n
      omega
    have bc := pv_law_back c (by omega)
    have bp := pv_law_back [((y1, t) : Pc)] (by simp)
    have bo := pv_law_back [((y2, 1 + cell / 401 % 3) : Pc)] (by simp)
    have lbc := NH.contr_length c
    have step : ∃ (c1 : List Pc) (b6 b7 b8 b9 b10 : Sl), (t_law_built_L0 (.int lo) [.sh (.list (ns.map .int)), x1, .sh (.list (w.map stD)), .sh (.int most), .ow (c.map pcD), a5, a6, a7, a8, a9, a10]).bind g_law_built_L0 = some ([.sh (.list (ns.map .int)), x1, .sh (.list (w.map stD)), .sh (.int most), .ow (c1.map pcD), .sh (.int lo), b6, b7, b8, b9, b10], .nx) ∧ c1.length + k ≤ most + 100 ∧ CordOk c1 := by
      obtain ⟨wy, hwy, small⟩ : ∃ wy : Int, (((most : Int) / 2 - 4 < (c.length : Int) ∧ wy = 0) ∨ (¬ (most : Int) / 2 - 4 < (c.length : Int) ∧ wy = cell % 7)) ∧ (wy ≠ 0 → 2 * c.length + 8 ≤ most) := by
        by_cases b : (most : Int) / 2 - 4 < (c.length : Int)
        · exact ⟨0, Or.inl ⟨b, rfl⟩, fun z => absurd rfl z⟩
        · exact ⟨_, Or.inr ⟨b, rfl⟩, fun _ => by omega⟩
      have sa := st_ba x1 (ns.map .int) (w.map stD) most lo (ns.getD lo 0) cell u t w.length wy y1 y2 c a5 a6 a7 a8 a9 a10 ea es eu et (by simp) (by rw [List.length_map]; omega) (by omega) (by decide) (by decide) (by decide) (by decide) i1 i2 (by omega) c.length rfl hwy
      rw [sa]
      by_cases w12 : wy = 1 ∨ wy = 2
      · have := small (by omega)
        exact ⟨_, _, _, _, _, _, st_bw12 _ _ _ _ _ _ cell wy c _ _ _ _ _ (by omega) (by omega) (by simp [NH.contr]) (by simp [NH.contr]) bc bp bo w12, by simp [NH.contr_length]; omega, ((kc.append kp).append kc.contr).append kp.contr⟩
      · by_cases w3 : wy = 3
        · have := small (by omega)
          exact ⟨_, _, _, _, _, _, st_bw3 _ _ _ _ _ _ cell wy c _ _ _ _ _ (by omega) (by omega) (by simp [NH.contr]) (by simp [NH.contr]) bc bp bo w3, by simp [NH.contr_length]; omega, (kp.append kc).append kp.contr⟩
        · by_cases w4 : wy = 4
          · have := small (by omega)
            obtain ⟨s10, e4⟩ := st_bw4 (.sh (.list (ns.map .int))) x1 (.sh (.list (w.map stD))) (.sh (.int most)) (.sh (.int lo)) a10 cell wy c (y1, t) (y2, 1 + cell / 401 % 3) _ _ _ (by omega) (by omega) (by simp [NH.contr]) (by simp [NH.contr]) bc bp bo _ _ (by decide) rfl (by omega) rfl w4
            have k1 := cutL_len c none (some (cell / 3001 % ((c.length : Int) + 1)))
            have k2 := cutL_len c (some (cell / 3001 % ((c.length : Int) + 1))) none
            exact ⟨_, _, _, _, _, _, e4, by simp [NH.contr_length]; omega, ((((kc.cutL _ _).append ko).append kz).append ko.contr).append (kc.cutL _ _)⟩
          · by_cases w5 : wy = 5
            · have := small (by omega)
              exact ⟨_, _, _, _, _, _, st_bw5 _ _ _ _ _ _ cell wy c _ _ _ _ _ (by omega) (by omega) (by simp [NH.contr]) (by simp [NH.contr]) bc bp bo w5, by simp [NH.contr_length]; omega, (((kc.append ko).append kp).append ko.contr).append kp.contr⟩
            · exact ⟨_, _, _, _, _, _, st_bw0 _ _ _ _ _ _ cell wy c _ _ _ _ _ (by omega) (by omega) (by simp [NH.contr]) (by simp [NH.contr]) bc bp bo (by omega) (by omega) w3 w4 w5, by simp; omega, kc.append kp⟩
    obtain ⟨c1, b6, b7, b8, b9, b10, e, l1, k1⟩ := step
    obtain ⟨c', d5, d6, d7, d8, d9, d10, e2, l2, k2⟩ := pl_built ns x1 w hw hw2 hn most hm k (lo + 1) c1 (.sh (.int lo)) b6 b7 b8 b9 b10 (by omega) (by omega) l1 k1
    refine ⟨c', d5, d6, d7, d8, d9, d10, ?_, l2, k2⟩
    rw [rngD_succ, pLoop, e]
    exact e2
theorem st_bu_it (x0 x2 x3 x4 : Sl) (f : Int) (ob1 : -1000000 ≤ f) (ob2 : f + 8 ≤ 1000000) : iRng2P (aCons false (pVar 1) (aCons false (pBin pAdd false (pVar 1) (pC (.int 8))) aNil)) [x0, .sh (.int f), x2, x3, x4, .no, .no, .no, .no, .no, .no] = some (rngD f 8, [x0, .sh (.int f), x2, x3, x4, .no, .no, .no, .no, .no, .no]) := by
  have l : (aCons false (pVar 1) (aCons false (pBin pAdd false (pVar 1) (pC (.int 8))) aNil)) [x0, .sh (.int f), x2, x3, x4, .no, .no, .no, .no, .no, .no] = some ([.sh (.int f), .sh (.int (f + 8))], [x0, .sh (.int f), x2, x3, x4, .no, .no, .no, .no, .no, .no]) := by
    simp only [aCons, pVar, List.getElem?_cons_succ, List.getElem?_cons_zero, Sl.isBr, Bool.false_and, Bool.false_eq_true, pBin, pC, pAdd, look, Sl.val, hot, hot1, Option.bind_some, Bool.not_false, Bool.true_or, Bool.and_true, if_false, aNil, Option.map_some]
  unfold iRng2P
  rw [l, Option.bind_some]
  show (if -1000000 ≤ f ∧ f ≤ 1000000 ∧ -1000000 ≤ f + 8 ∧ f + 8 ≤ 1000000 then some (rngD f (f + 8 - f).toNat, [x0, .sh (.int f), x2, x3, x4, .no, .no, .no, .no, .no, .no]) else none) = _
  rw [if_pos ⟨ob1, by omega, by omega, ob2⟩, show (f + 8 - f).toNat = 8 by omega]
theorem st_bu (x0 : PyData) (f M : Int) (ws C C2 : List PyData) (b5 b6 b7 b8 b9 b10 : Sl) (ob1 : -1000000 ≤ f) (ob2 : f + 8 ≤ 1000000) (lp : pLoop t_law_built_L0 g_law_built_L0 (rngD f 8) [.sh x0, .sh (.int f), .sh (.list ws), .sh (.int M), .ow [], .no, .no, .no, .no, .no, .no] = some ([.sh x0, .sh (.int f), .sh (.list ws), .sh (.int M), .ow C, b5, b6, b7, b8, b9, b10], .nx)) (hc : cutD C none (some M) = C2) (fC : flatA C2 = true) : fn_law_built [x0, .int f, .list ws, .int M] = some (.ow C2) := by
  have gl : g_law_built = pSeq (pSet 4 (pLst dNil)) (pSeq (pFor (iRng2P (aCons false (pVar 1) (aCons false (pBin pAdd false (pVar 1) (pC (.int 8))) aNil))) t_law_built_L0 g_law_built_L0) (pRet (pCut false (pVar 4) oNone (oSome (pVar 3))))) := rfl
  have s4 : pSet 4 (pLst dNil) [.sh x0, .sh (.int f), .sh (.list ws), .sh (.int M), .no, .no, .no, .no, .no, .no, .no] = some ([.sh x0, .sh (.int f), .sh (.list ws), .sh (.int M), .ow [], .no, .no, .no, .no, .no, .no], .nx) := by
    simp only [pSet, pLst, dNil, Option.bind_some, List.length_nil, Nat.reduceLeDiff, if_true, PL.settle, frz, frzAll, List.length_cons, Nat.zero_add, Nat.reduceAdd, Nat.reduceLT, List.set_cons_succ, List.set_cons_zero]
  have fo : pFor (iRng2P (aCons false (pVar 1) (aCons false (pBin pAdd false (pVar 1) (pC (.int 8))) aNil))) t_law_built_L0 g_law_built_L0 [.sh x0, .sh (.int f), .sh (.list ws), .sh (.int M), .ow [], .no, .no, .no, .no, .no, .no] = some ([.sh x0, .sh (.int f), .sh (.list ws), .sh (.int M), .ow C, b5, b6, b7, b8, b9, b10], .nx) := by
    delta pFor
    show Option.bind _ _ = _
    rw [st_bu_it _ _ _ _ f ob1 ob2]
    exact lp
  have rt : pRet (pCut false (pVar 4) oNone (oSome (pVar 3))) [.sh x0, .sh (.int f), .sh (.list ws), .sh (.int M), .ow C, b5, b6, b7, b8, b9, b10] = some ([.sh x0, .sh (.int f), .sh (.list ws), .sh (.int M), .ow C, b5, b6, b7, b8, b9, b10], .rt (.ow C2)) := by
    simp only [pRet, pCut, pVar, List.getElem?_cons_succ, List.getElem?_cons_zero, Sl.isBr, Bool.false_and, Bool.false_eq_true, oNone, oSome, look, Sl.val, hot, hot1, Option.bind_some, if_false, Option.any_some, Bool.not_false, hc, Bool.true_or, if_true]
  have g : g_law_built [.sh x0, .sh (.int f), .sh (.list ws), .sh (.int M), .no, .no, .no, .no, .no, .no, .no] = some ([.sh x0, .sh (.int f), .sh (.list ws), .sh (.int M), .ow C, b5, b6, b7, b8, b9, b10], .rt (.ow C2)) := by
    rw [gl, seq_nx s4, seq_nx fo]
    exact rt
  simp only [fn_law_built, fnB, runB, startE, List.length_cons, List.length_nil, List.map_cons, List.map_nil, List.replicate, List.cons_append, List.nil_append, Nat.reduceAdd, Nat.reduceSub, g, Option.bind_some, outS, Clean, fC, if_true, reduceIte]
theorem pv_law_built (ns : List Int) (w : List Nat) (hw : 0 < w.length) (hw2 : w.length ≤ 1000) (hn : ∀ a ∈ w, a < 128) (first most : Nat) (hf : first ≤ 100) (hm : most ≤ 100) : ∃ c : List Pc, fn_law_built [.list (ns.map .int), .int first, .list (w.map stD), .int most] = some (.ow (c.map pcD)) ∧ c.length ≤ most ∧ CordOk c := by
  obtain ⟨c, b5, b6, b7, b8, b9, b10, e, l, k⟩ := pl_built ns (.sh (.int first)) w hw hw2 hn most hm 8 first [] .no .no .no .no .no .no (by omega) (by omega) (by simp) cord_nil
  simp only [List.map_nil] at e
  refine ⟨cutL c none (some (most : Int)), st_bu _ _ _ _ _ _ _ _ _ _ _ _ (by omega) (by omega) e (by rw [cutD_map]) (flatA_pc _), ?_, k.cutL _ _⟩
  have := cutL_most c (show (0 : Int) ≤ (most : Int) by omega)
  omega
theorem st_co_1 (x0 : PyData) (f z M : Int) (ws C : List PyData) (ea : fn_law_at [x0, .int f] = some (.sh (.int z))) (h : ¬ (-1000000000000000000 < z ∧ z < 1000000000000000000)) (e : fn_law_by_digits [.int z, .list ws, .int M] = some (.ow C)) (fC : flatA C = true) : fn_law_cord [x0, .int f, .list ws, .int M] = some (.ow C) := by
  by_cases b1 : -1000000000000000000 < z
  · have b2 : ¬ z < 1000000000000000000 := fun q => h ⟨b1, q⟩
    simp only [fn_law_cord, fnB, List.length_cons, List.length_nil, Nat.zero_add, Nat.reduceAdd, runB, g_law_cord, pSeq, pSet, pCall, aCons, pVar, startE, List.map_cons, List.map_nil, Nat.reduceSub, List.replicate, List.cons_append, List.nil_append, List.getElem?_cons_zero, Sl.isBr, Bool.false_and, Bool.false_eq_true, aNil, Option.map_some, if_false, Option.bind_some, List.getElem?_cons_succ, lookA, look, Sl.val, ea, PL.settle, frz, frzAll, Nat.reduceLT, List.set_cons_succ, List.set_cons_zero, if_true, pIfS, tNotP, isB, pChain, pUn, pBin, pC, pPow, sc2, iOp, Int.reducePow, Int.reduceNeg, Int.reduceLE, Int.reduceLT, and_self, decide_true, Int.reduceToNat, dNeg, Bool.or_false, dCmp, Cm.i, Cm.s, pRet, pNext, pAdd, hot, hot1, Bool.not_false, Bool.true_or, Bool.and_true, b2, decide_false, b1, e, outS, Clean, fC]
  · simp only [fn_law_cord, fnB, List.length_cons, List.length_nil, Nat.zero_add, Nat.reduceAdd, runB, g_law_cord, pSeq, pSet, pCall, aCons, pVar, startE, List.map_cons, List.map_nil, Nat.reduceSub, List.replicate, List.cons_append, List.nil_append, List.getElem?_cons_zero, Sl.isBr, Bool.false_and, Bool.false_eq_true, aNil, Option.map_some, if_false, Option.bind_some, List.getElem?_cons_succ, lookA, look, Sl.val, ea, PL.settle, frz, frzAll, Nat.reduceLT, List.set_cons_succ, List.set_cons_zero, if_true, pIfS, tNotP, isB, pChain, pUn, pBin, pC, pPow, sc2, iOp, Int.reducePow, Int.reduceNeg, Int.reduceLE, Int.reduceLT, and_self, decide_true, Int.reduceToNat, dNeg, Bool.or_false, dCmp, Cm.i, Cm.s, pRet, pNext, pAdd, hot, hot1, Bool.not_false, Bool.true_or, Bool.and_true, b1, decide_false, e, outS, Clean, fC]
theorem st_co_2 (x0 : PyData) (f z M : Int) (ws C : List PyData) (ea : fn_law_at [x0, .int f] = some (.sh (.int z))) (h1 : -1000000000000000000 < z) (h2 : z < 1000000000000000000) (e : fn_law_built [x0, .int (f + 1), .list ws, .int M] = some (.ow C)) (fC : flatA C = true) : fn_law_cord [x0, .int f, .list ws, .int M] = some (.ow C) := by
  simp only [fn_law_cord, fnB, List.length_cons, List.length_nil, Nat.zero_add, Nat.reduceAdd, runB, g_law_cord, pSeq, pSet, pCall, aCons, pVar, startE, List.map_cons, List.map_nil, Nat.reduceSub, List.replicate, List.cons_append, List.nil_append, List.getElem?_cons_zero, Sl.isBr, Bool.false_and, Bool.false_eq_true, aNil, Option.map_some, if_false, Option.bind_some, List.getElem?_cons_succ, lookA, look, Sl.val, ea, PL.settle, frz, frzAll, Nat.reduceLT, List.set_cons_succ, List.set_cons_zero, if_true, pIfS, tNotP, isB, pChain, pUn, pBin, pC, pPow, sc2, iOp, Int.reducePow, Int.reduceNeg, Int.reduceLE, Int.reduceLT, and_self, decide_true, Int.reduceToNat, dNeg, Bool.or_false, dCmp, Cm.i, Cm.s, pRet, pNext, pAdd, hot, hot1, Bool.not_false, Bool.true_or, Bool.and_true, h2, h1, Bool.not_true, e, outS, Clean, fC]
theorem pv_law_cord (ns : List Int) (w : List Nat) (hw : 0 < w.length) (hw2 : w.length ≤ 1000) (hn : ∀ a ∈ w, a < 128) (first most : Nat) (hf : first ≤ 90) (hm : most ≤ 100) : ∃ c : List Pc, fn_law_cord [.list (ns.map .int), .int first, .list (w.map stD), .int most] = some (.ow (c.map pcD)) ∧ c.length ≤ most ∧ CordOk c := by
  have ea := pv_law_at ns first
  by_cases h : -1000000000000000000 < ns.getD first 0 ∧ ns.getD first 0 < 1000000000000000000
  · obtain ⟨c, e, l, k⟩ := pv_law_built ns w hw hw2 hn (first + 1) most (by omega) hm
    rw [show ((first + 1 : Nat) : Int) = (first : Int) + 1 by omega] at e
    exact ⟨c, st_co_2 _ _ _ _ _ _ ea h.1 h.2 e (flatA_pc _), l, k⟩
  · obtain ⟨c, e, l, k⟩ := pv_by_digits w hw hw2 hn (ns.getD first 0) most hm
    exact ⟨c, st_co_1 _ _ _ _ _ _ ea h e (flatA_pc _), l, k⟩
theorem pl_short_form (x0 : Sl) : ∀ (c : List Pc) (st : List Pc) (a b d : Sl), st.length + c.length ≤ 100000 → ∃ a' b' d', pLoop t_short_form_L0 g_short_form_L0 (c.map pcD) [x0, .ow (st.reverse.map pcD), a, b, d] = some ([x0, .ow ((c.foldl NH.stp st).reverse.map pcD), a', b', d'], .nx)
  | [], st, a, b, d, _ => ⟨a, b, d, rfl⟩
  | p :: c, st, a, b, d, h => by
    have step : ∃ a' b' d', (t_short_form_L0 (pcD p) [x0, .ow (st.reverse.map pcD), a, b, d]).bind g_short_form_L0 = some ([x0, .ow ((NH.stp st p).reverse.map pcD), a', b', d'], .nx) := by
      cases st with
      | nil =>
        by_cases z : p.2 = 0
        · simp only [t_short_form_L0, gTupP, pcD, z, List.length_cons, List.length_nil, Nat.zero_add, Nat.reduceAdd, gConsP, gNameP, List.reverse_nil, List.map_nil, Nat.reduceLT, List.set_cons_succ, List.set_cons_zero, if_true, Option.bind_some, gNilP, List.isEmpty_nil, g_short_form_L0, pEq, pNe, pSeq, pSet, pVar, List.getElem?_cons_succ, List.getElem?_cons_zero, PL.settle, frz, frzAll, pIfS, tAndP, pTru, Sl.val, isB, pBin, Sl.isBr, Bool.false_and, Bool.false_eq_true, pUn, pC, look, dNeg, Option.map_some, pIx, hot, hot1, if_false, sc2, pPop, pAdd, pNext, pExpr, pAppend, pTup, dCons, dNil, dTru, Bool.not_true, Option.any_some, Nat.reduceSub, dEq_int, decide_true, Nat.reduceLeDiff, List.nil_append, NH.stp]
          exact ⟨_, _, _, rfl⟩
        · simp only [t_short_form_L0, gTupP, pcD, List.length_cons, List.length_nil, Nat.zero_add, Nat.reduceAdd, gConsP, gNameP, List.reverse_nil, List.map_nil, Nat.reduceLT, List.set_cons_succ, List.set_cons_zero, if_true, Option.bind_some, gNilP, List.isEmpty_nil, g_short_form_L0, pEq, pNe, pSeq, pSet, pVar, List.getElem?_cons_succ, List.getElem?_cons_zero, PL.settle, frz, frzAll, pIfS, tAndP, pTru, Sl.val, isB, pBin, Sl.isBr, Bool.false_and, Bool.false_eq_true, pUn, pC, look, dNeg, Option.map_some, pIx, hot, hot1, if_false, sc2, pPop, pAdd, pNext, pExpr, pAppend, pTup, dCons, dNil, dTru, Bool.not_true, Option.any_some, Nat.reduceSub, dEq_int, z, decide_false, Bool.not_false, Nat.reduceLeDiff, List.nil_append, NH.stp]
          exact ⟨_, _, _, rfl⟩
      | cons q st =>
        have lb : st.length < 1000000 ∧ st.length + 1 < 1000000 := by simp at h; omega
        by_cases e : q.1 = p.1
        · by_cases z : q.2 + p.2 = 0
          · simp only [t_short_form_L0, gTupP, gConsP, gNameP, List.reverse_cons, List.map_append, List.map_cons, List.map_nil, List.length_cons, List.length_nil, Nat.zero_add, Nat.reduceAdd, Nat.reduceLT, List.set_cons_succ, List.set_cons_zero, if_true, Option.bind_some, gNilP, g_short_form_L0, pEq, pNe, NH.stp]
            simp only [pcD, List.length_cons, List.length_nil, Nat.zero_add, Nat.reduceAdd, List.isEmpty_nil, e, if_true, Option.bind_some, pSeq, pSet, pVar, List.getElem?_cons_succ, List.getElem?_cons_zero, PL.settle, frz, frzAll, Nat.reduceLT, List.set_cons_succ, List.set_cons_zero, pIfS, tAndP, pTru, Sl.val, isB, pBin, Sl.isBr, Bool.false_and, Bool.false_eq_true, pUn, pC, look, dNeg, Option.map_some, pIx, hot, hot1, if_false, sc2, pPop, pAdd, pNext, pExpr, pAppend, pTup, dCons, dNil, dTru, emp_lst, Bool.not_false, Option.any_some, atI_lst, atI_0, dEq_str, decide_true, List.dropLast_concat, get_lst, atI_1, Bool.true_or, Bool.and_true, z, dEq_int, Bool.not_true, Nat.reduceLeDiff]
            simp [pcD]
          · simp only [t_short_form_L0, gTupP, gConsP, gNameP, List.reverse_cons, List.map_append, List.map_cons, List.map_nil, List.length_cons, List.length_nil, Nat.zero_add, Nat.reduceAdd, Nat.reduceLT, List.set_cons_succ, List.set_cons_zero, if_true, Option.bind_some, gNilP, g_short_form_L0, pEq, pNe, NH.stp]
            simp only [pcD, List.length_cons, List.length_nil, Nat.zero_add, Nat.reduceAdd, List.isEmpty_nil, e, if_true, Option.bind_some, pSeq, pSet, pVar, List.getElem?_cons_succ, List.getElem?_cons_zero, PL.settle, frz, frzAll, Nat.reduceLT, List.set_cons_succ, List.set_cons_zero, pIfS, tAndP, pTru, Sl.val, isB, pBin, Sl.isBr, Bool.false_and, Bool.false_eq_true, pUn, pC, look, dNeg, Option.map_some, pIx, hot, hot1, if_false, sc2, pPop, pAdd, pNext, pExpr, pAppend, pTup, dCons, dNil, dTru, emp_lst, Bool.not_false, Option.any_some, atI_lst, atI_0, dEq_str, decide_true, List.dropLast_concat, get_lst, atI_1, Bool.true_or, Bool.and_true, dEq_int, z, decide_false, Nat.reduceLeDiff, List.length_map, List.length_reverse, lb]
            simp [pcD]
        · by_cases z : p.2 = 0
          · simp only [t_short_form_L0, gTupP, gConsP, gNameP, List.reverse_cons, List.map_append, List.map_cons, List.map_nil, List.length_cons, List.length_nil, Nat.zero_add, Nat.reduceAdd, Nat.reduceLT, List.set_cons_succ, List.set_cons_zero, if_true, Option.bind_some, gNilP, g_short_form_L0, pEq, pNe, NH.stp]
            simp only [pcD, z, List.length_cons, List.length_nil, Nat.zero_add, Nat.reduceAdd, List.isEmpty_nil, if_true, Option.bind_some, pSeq, pSet, pVar, List.getElem?_cons_succ, List.getElem?_cons_zero, PL.settle, frz, frzAll, Nat.reduceLT, List.set_cons_succ, List.set_cons_zero, pIfS, tAndP, pTru, Sl.val, isB, pBin, Sl.isBr, Bool.false_and, Bool.false_eq_true, pUn, pC, look, dNeg, Option.map_some, pIx, hot, hot1, if_false, sc2, pPop, pAdd, pNext, pExpr, pAppend, pTup, dCons, dNil, dTru, emp_lst, Bool.not_false, Option.any_some, atI_lst, atI_0, dEq_str, str1_eq, e, decide_false, List.dropLast_concat, get_lst, atI_1, Bool.true_or, Bool.and_true, dEq_int, decide_true, Bool.not_true, Nat.reduceLeDiff]
            simp [pcD]
          · simp only [t_short_form_L0, gTupP, gConsP, gNameP, List.reverse_cons, List.map_append, List.map_cons, List.map_nil, List.length_cons, List.length_nil, Nat.zero_add, Nat.reduceAdd, Nat.reduceLT, List.set_cons_succ, List.set_cons_zero, if_true, Option.bind_some, gNilP, g_short_form_L0, pEq, pNe, NH.stp]
            simp only [pcD, List.length_cons, List.length_nil, Nat.zero_add, Nat.reduceAdd, List.isEmpty_nil, if_true, Option.bind_some, pSeq, pSet, pVar, List.getElem?_cons_succ, List.getElem?_cons_zero, PL.settle, frz, frzAll, Nat.reduceLT, List.set_cons_succ, List.set_cons_zero, pIfS, tAndP, pTru, Sl.val, isB, pBin, Sl.isBr, Bool.false_and, Bool.false_eq_true, pUn, pC, look, dNeg, Option.map_some, pIx, hot, hot1, if_false, sc2, pPop, pAdd, pNext, pExpr, pAppend, pTup, dCons, dNil, dTru, emp_lst, Bool.not_false, Option.any_some, atI_lst, atI_0, dEq_str, str1_eq, e, decide_false, List.dropLast_concat, List.length_append, List.length_map, List.length_reverse, dEq_int, z, Nat.reduceLeDiff, lb]
            simp [pcD]
    obtain ⟨a', b', d', e⟩ := step
    have ih := pl_short_form x0 c (NH.stp st p) a' b' d' (by have := NH.stp_len st p; simp at h; omega)
    obtain ⟨a2, b2, d2, e2⟩ := ih
    refine ⟨a2, b2, d2, ?_⟩
    rw [List.map_cons, pLoop, e]
    exact e2
theorem pv_short_form (c : List Pc) (h : c.length ≤ 100000) : fn_short_form [.list (c.map pcD)] = some (.ow ((NH.short c).map pcD)) := by
  obtain ⟨a, b, d, e⟩ := pl_short_form (.sh (.list (c.map pcD))) c [] .no .no .no (by simpa using h)
  simp only [List.reverse_nil, List.map_nil] at e
  simp only [fn_short_form, fnB, List.length_cons, List.length_nil, Nat.zero_add, runB, g_short_form, pSeq, pSet, pLst, dNil, startE, List.map_cons, List.map_nil, Nat.reduceSub, List.replicate, List.cons_append, List.nil_append, Option.bind_some, Nat.reduceLeDiff, if_true, PL.settle, frz, frzAll, Nat.reduceAdd, Nat.reduceLT, List.set_cons_succ, List.set_cons_zero, pFor, iAny, pVar, pRet, List.getElem?_cons_zero, e, List.getElem?_cons_succ, Option.map_some, outS, Clean, flatA_pc, Option.some.injEq]
  rfl
theorem pc_contrary : ∀ (d : List Pc) (x0 x1 : Sl), cLoop t_contrary_C0 tYesP e_contrary_C0 (d.map pcD) [x0, x1] = some ((d.map fun p => ((p.1, -p.2) : Pc)).map pcD)
  | [], x0, x1 => rfl
  | p :: d, x0, x1 => by
    have e : (t_contrary_C0 (pcD p) [x0, x1]) = some [.sh (.str ⟨#[p.1]⟩), .sh (.int p.2)] := rfl
    have e2 : e_contrary_C0 [.sh (.str ⟨#[p.1]⟩), .sh (.int p.2)] = some (.sh (pcD (p.1, -p.2)), [.sh (.str ⟨#[p.1]⟩), .sh (.int p.2)]) := by
      simp only [e_contrary_C0, pTup, dCons, pVar, List.getElem?_cons_zero, frz, pUn, look, Sl.val, dNeg, dNil, Option.map_some, Option.bind_some, List.getElem?_cons_succ, List.length_cons, List.length_nil, Nat.zero_add, Nat.reduceAdd, Nat.reduceLeDiff, if_true, pcD]
    rw [List.map_cons, cLoop, e, Option.bind_some]
    simp only [tYesP, frz, Option.bind_some, e2, pc_contrary d, Option.map_some, if_true, List.map_cons]
theorem pv_contrary (c : List Pc) (h : c.length ≤ 1000000) : fn_contrary [.list (c.map pcD)] = some (.ow ((NH.contr c).map pcD)) := by
  have hl : (NH.contr c).length = c.length := NH.contr_length c
  have e : (c.reverse.map fun p => ((p.1, -p.2) : Pc)) = NH.contr c := rfl
  have k := pc_contrary c.reverse .no .no
  rw [e, List.map_reverse] at k
  simp only [fn_contrary, fnB, List.length_cons, List.length_nil, Nat.zero_add, runB, g_contrary, pRet, pComp, iRevP, pVar, startE, List.map_cons, List.map_nil, Nat.sub_self, List.replicate, List.cons_append, List.nil_append, List.getElem?_cons_zero, frz, Option.bind_some, slotsE, slotE, k, flatA_pc, List.length_map, hl, h, decide_true, Bool.and_true, if_true, outS, Clean]
noncomputable def Ltr (n : Nat) : Prop := 97 ≤ n ∧ n ≤ 122
noncomputable def MvL : Mv → Prop
  | .turn n => Ltr n
  | .change n m => Ltr n ∧ Ltr m ∧ n ≠ m
  | .slide n m _ => Ltr n ∧ Ltr m ∧ n ≠ m
theorem MvL.ok : ∀ {mv : Mv}, MvL mv → mv.ok
  | .turn _, _ => trivial
  | .change _ _, h => h.2.2
  | .slide _ _ _, h => h.2.2
theorem MvL.inv : ∀ {mv : Mv}, MvL mv → MvL mv.inv
  | .turn _, h => h
  | .change _ _, h => h
  | .slide _ _ _, h => h
theorem cps_a : (Str.ofString "a").cps.toList = [97] := by decide +kernel
theorem cps_z : (Str.ofString "z").cps.toList = [122] := by decide +kernel
theorem le_a {n : Nat} (h : Ltr n) : decide ([n] < (Str.ofString "a").cps.toList) = false := by
  have h1 := h.1
  rw [cps_a]
  refine decide_eq_false fun z => ?_
  rcases List.cons_lt_cons_iff.mp z with z | z
  · omega
  · exact absurd z.2 (by simp)
theorem le_z {n : Nat} (h : Ltr n) : decide ((Str.ofString "z").cps.toList < [n]) = false := by
  have h2 := h.2
  rw [cps_z]
  refine decide_eq_false fun z => ?_
  rcases List.cons_lt_cons_iff.mp z with z | z
  · omega
  · exact absurd z.2 (by simp)
theorem pv_is_nail (n : Nat) (h : Ltr n) : fn_is_nail [.str ⟨#[n]⟩] = some (.sh (.bool true)) := by
  have l : (⟨#[n]⟩ : Str).length = 1 := rfl
  have a := le_a h
  have z := le_z h
  simp only [fn_is_nail, fnB, List.length_cons, List.length_nil, Nat.zero_add, runB, g_is_nail, pRet, pAndV, pUn, pVar, startE, List.map_cons, List.map_nil, Nat.sub_self, List.replicate, List.cons_append, List.nil_append, List.getElem?_cons_zero, look, Sl.val, dIsi, Ty.is, tyD, Option.map_some, Option.bind_some, pBin, pCaS, aCons, Sl.isBr, Bool.false_and, Bool.false_eq_true, aNil, if_false, dLen, pC, pEq, sc2, pChain, Bool.or_false, dCmp, Cm.i, Cm.s, lookA, l, Nat.reduceLeDiff, Int.cast_ofNat_Int, if_true, dEq_int, decide_true, z, Bool.not_false, a, outS, Clean, flat]
theorem pv_is_whole (z : Int) : fn_is_whole [.int z] = some (.sh (.bool true)) := by
  simp only [fn_is_whole, fnB, List.length_cons, List.length_nil, Nat.zero_add, runB, g_is_whole, pRet, pAndV, pUn, pVar, startE, List.map_cons, List.map_nil, Nat.sub_self, List.replicate, List.cons_append, List.nil_append, List.getElem?_cons_zero, look, Sl.val, dIsi, Ty.is, tyD, Option.map_some, Option.bind_some, dNot, Bool.not_false, outS, Clean, flat, if_true]
theorem pv_two_nails {n m : Nat} (h1 : Ltr n) (h2 : Ltr m) (ne : n ≠ m) : fn_are_two_nails [.str ⟨#[n]⟩, .str ⟨#[m]⟩] = some (.sh (.bool true)) := by
  have e1 := pv_is_nail n h1
  have e2 := pv_is_nail m h2
  simp only [fn_are_two_nails, fnB, List.length_cons, List.length_nil, Nat.zero_add, Nat.reduceAdd, runB, g_are_two_nails, pRet, pAndV, pCall, aCons, pVar, startE, List.map_cons, List.map_nil, Nat.sub_self, List.replicate, List.cons_append, List.nil_append, List.getElem?_cons_zero, Sl.isBr, Bool.false_and, Bool.false_eq_true, aNil, Option.map_some, if_false, Option.bind_some, lookA, look, Sl.val, e1, pBin, pNe, sc2, List.getElem?_cons_succ, e2, dEq_str, str1_eq, ne, decide_false, Bool.not_false, outS, Clean, flat, if_true]
theorem pv_is_move : ∀ (mv : Mv), MvL mv → fn_is_move [mvD mv] = some (.sh (.bool true))
  | .turn n, h => by
    have e1 := pv_is_nail n h
    simp only [fn_is_move, fnB, mvD, List.length_cons, List.length_nil, Nat.zero_add, runB, g_is_move, pSeq, pIfS, tOrP, tNotP, pTru, pUn, pVar, startE, List.map_cons, List.map_nil, Nat.sub_self, List.replicate, List.cons_append, List.nil_append, List.getElem?_cons_zero, look, Sl.val, dIsi, Ty.is, tyD, Option.map_some, Option.bind_some, dTru, Bool.not_true, isB, pBin, pCaS, aCons, Sl.isBr, Bool.false_and, Bool.false_eq_true, aNil, if_false, dLen, pC, pEq, sc2, lookA, Nat.reduceAdd, Int.cast_ofNat_Int, dEq_int, Int.reduceEq, decide_false, pRet, pNext, pIx, hot, hot1, pAndV, pCall, atI_0, dEq_str, decide_true, atI_1, e1, if_true, outS, Clean, flat]
  | .change n m, h => by
    have e1 := pv_two_nails h.1 h.2.1 h.2.2
    simp only [fn_is_move, fnB, mvD, List.length_cons, List.length_nil, Nat.zero_add, runB, g_is_move, pSeq, pIfS, tOrP, tNotP, pTru, pUn, pVar, startE, List.map_cons, List.map_nil, Nat.sub_self, List.replicate, List.cons_append, List.nil_append, List.getElem?_cons_zero, look, Sl.val, dIsi, Ty.is, tyD, Option.map_some, Option.bind_some, dTru, Bool.not_true, isB, pBin, pCaS, aCons, Sl.isBr, Bool.false_and, Bool.false_eq_true, aNil, if_false, dLen, pC, pEq, sc2, lookA, Nat.reduceAdd, Int.cast_ofNat_Int, dEq_int, Int.reduceEq, decide_false, pRet, pNext, pIx, hot, hot1, pAndV, pCall, atI_0, dEq_str, sn_ct, decide_true, atI_1, atI_2, e1, if_true, outS, Clean, flat]
  | .slide n m t, h => by
    have e1 := pv_two_nails h.1 h.2.1 h.2.2
    have e2 := pv_is_whole t
    simp only [fn_is_move, fnB, mvD, List.length_cons, List.length_nil, Nat.zero_add, runB, g_is_move, pSeq, pIfS, tOrP, tNotP, pTru, pUn, pVar, startE, List.map_cons, List.map_nil, Nat.sub_self, List.replicate, List.cons_append, List.nil_append, List.getElem?_cons_zero, look, Sl.val, dIsi, Ty.is, tyD, Option.map_some, Option.bind_some, dTru, Bool.not_true, isB, pBin, pCaS, aCons, Sl.isBr, Bool.false_and, Bool.false_eq_true, aNil, if_false, dLen, pC, pEq, sc2, lookA, Nat.reduceAdd, Int.cast_ofNat_Int, dEq_int, Int.reduceEq, decide_false, pRet, pNext, pIx, hot, hot1, pAndV, pCall, atI_0, dEq_str, sn_st, sn_sc, decide_true, atI_1, atI_2, e1, atI_3, e2, if_true, outS, Clean, flat]
theorem pl_check (x0 : Sl) : ∀ (ms : List Mv) (a : Sl), (∀ mv ∈ ms, MvL mv) → ∃ a', pLoop t_check_moves_L0 g_check_moves_L0 (ms.map mvD) [x0, a] = some ([x0, a'], .nx)
  | [], a, _ => ⟨a, rfl⟩
  | mv :: ms, a, h => by
    have e1 := pv_is_move mv (h mv (List.mem_cons_self ..))
    have e : (t_check_moves_L0 (mvD mv) [x0, a]).bind g_check_moves_L0 = some ([x0, .sh (mvD mv)], .nx) := by
      simp only [t_check_moves_L0, gNameP, List.length_cons, List.length_nil, Nat.zero_add, Nat.reduceAdd, Nat.reduceLT, List.set_cons_succ, List.set_cons_zero, if_true, g_check_moves_L0, Option.bind_some, pIfS, tNotP, pTru, pCall, aCons, pVar, List.getElem?_cons_succ, List.getElem?_cons_zero, Sl.isBr, Bool.false_and, Bool.false_eq_true, aNil, Option.map_some, if_false, lookA, look, Sl.val, e1, dTru, Bool.not_true, pNext]
    obtain ⟨a', ih⟩ := pl_check x0 ms (.sh (mvD mv)) fun r hr => h r (List.mem_cons_of_mem _ hr)
    refine ⟨a', ?_⟩
    rw [List.map_cons, pLoop, e]
    exact ih
theorem pv_check_moves (ms : List Mv) (h : ∀ mv ∈ ms, MvL mv) : fn_check_moves [.list (ms.map mvD)] = some (.sh .none) := by
  obtain ⟨a, e⟩ := pl_check (.sh (.list (ms.map mvD))) ms .no h
  simp only [fn_check_moves, fnB, List.length_cons, List.length_nil, Nat.zero_add, runB, g_check_moves, pSeq, pIfS, tNotP, pTru, pUn, pVar, startE, List.map_cons, List.map_nil, Nat.reduceSub, List.replicate, List.cons_append, List.nil_append, List.getElem?_cons_zero, look, Sl.val, dIsi, Ty.is, tyD, Option.map_some, Option.bind_some, dTru, Bool.not_true, pNext, Bool.false_eq_true, if_false, pFor, iAny, frz, e, outS, Clean, if_true]
theorem st_beside (n : Nat) (x : PyData) (mv : PyData) (p : Pc) (h : ∃ r, mv = .tuple (x :: .str ⟨#[n]⟩ :: r)) : e_pieces_beside_C0 [.sh (.str ⟨#[p.1]⟩), .sh (.int p.2), .sh mv] = some (.sh (.int (if p.1 = n then 2 * (p.2.natAbs : Int) else 1)), [.sh (.str ⟨#[p.1]⟩), .sh (.int p.2), .sh mv]) := by
  obtain ⟨r, rfl⟩ := h
  have a0 : (if p.2 < 0 then -p.2 else p.2) = (p.2.natAbs : Int) := by split <;> omega
  have m2 : ∀ i : Int, okMul 2 i = true := fun i => okMul_l (by decide) (by decide)
  by_cases e : p.1 = n
  · simp only [e_pieces_beside_C0, pIf, isB, pBin, pVar, e, List.getElem?_cons_zero, Sl.isBr, Bool.false_and, Bool.false_eq_true, pC, pIx, look, Sl.val, hot, hot1, Option.bind_some, if_false, pEq, sc2, List.getElem?_cons_succ, atI_1, Option.map_some, dEq_str, decide_true, pCaS, aCons, aNil, dAbs, pMul, Int.reduceNeg, Bool.not_false, Bool.true_or, Bool.and_true, lookA, a0, m2, if_true]
  · simp only [e_pieces_beside_C0, pIf, isB, pBin, pVar, List.getElem?_cons_zero, Sl.isBr, Bool.false_and, Bool.false_eq_true, pC, pIx, look, Sl.val, hot, hot1, Option.bind_some, if_false, pEq, sc2, List.getElem?_cons_succ, atI_1, Option.map_some, dEq_str, str1_eq, e, decide_false, pCaS, aCons, aNil, dAbs, pMul, Int.reduceNeg, Bool.not_false, Bool.true_or, Bool.and_true, lookA]
theorem pc_beside (n : Nat) (x : PyData) (mv : PyData) (h : ∃ r, mv = .tuple (x :: .str ⟨#[n]⟩ :: r)) : ∀ (c : List Pc) (a b : Sl), cLoop t_pieces_beside_C0 tYesP e_pieces_beside_C0 (c.map pcD) [a, b, .sh mv] = some ((c.map fun p => if p.1 = n then 2 * (p.2.natAbs : Int) else 1).map .int)
  | [], a, b => rfl
  | p :: c, a, b => by
    have e : t_pieces_beside_C0 (pcD p) [a, b, .sh mv] = some [.sh (.str ⟨#[p.1]⟩), .sh (.int p.2), .sh mv] := rfl
    rw [List.map_cons, List.map_cons, List.map_cons]
    exact cl_cons e (st_beside n x mv p h) (pc_beside n x mv h c _ _)
theorem pv_beside_t (n : Nat) (c : List PyData) : fn_pieces_beside [.list c, mvD (.turn n)] = some (.sh (.int c.length)) := by
  simp only [fn_pieces_beside, fnB, mvD, List.length_cons, List.length_nil, Nat.zero_add, Nat.reduceAdd, runB, g_pieces_beside, pSeq, pIfS, tOrP, isB, pBin, pVar, startE, List.map_cons, List.map_nil, Nat.sub_self, List.replicate, List.cons_append, List.nil_append, List.getElem?_cons_succ, List.getElem?_cons_zero, Sl.isBr, Bool.false_and, Bool.false_eq_true, pC, pIx, look, Sl.val, hot, hot1, Option.bind_some, if_false, atI_0, Option.map_some, pNe, sc2, dEq_str, sn_ts, decide_false, Bool.not_false, pEq, if_true, pRet, pCaS, aCons, aNil, dLen, pNext, lookA, dSum, outS, Clean, flat]
theorem pv_beside_c (n m : Nat) (c : List PyData) : fn_pieces_beside [.list c, mvD (.change n m)] = some (.sh (.int c.length)) := by
  simp only [fn_pieces_beside, fnB, mvD, List.length_cons, List.length_nil, Nat.zero_add, Nat.reduceAdd, runB, g_pieces_beside, pSeq, pIfS, tOrP, isB, pBin, pVar, startE, List.map_cons, List.map_nil, Nat.sub_self, List.replicate, List.cons_append, List.nil_append, List.getElem?_cons_succ, List.getElem?_cons_zero, Sl.isBr, Bool.false_and, Bool.false_eq_true, pC, pIx, look, Sl.val, hot, hot1, Option.bind_some, if_false, atI_0, Option.map_some, pNe, sc2, dEq_str, sn_cs, decide_false, Bool.not_false, pEq, if_true, pRet, pCaS, aCons, aNil, dLen, pNext, lookA, dSum, outS, Clean, flat]
theorem pv_beside_0 (n m : Nat) (c : List PyData) : fn_pieces_beside [.list c, mvD (.slide n m 0)] = some (.sh (.int c.length)) := by
  simp only [fn_pieces_beside, fnB, mvD, List.length_cons, List.length_nil, Nat.zero_add, Nat.reduceAdd, runB, g_pieces_beside, pSeq, pIfS, tOrP, isB, pBin, pVar, startE, List.map_cons, List.map_nil, Nat.sub_self, List.replicate, List.cons_append, List.nil_append, List.getElem?_cons_succ, List.getElem?_cons_zero, Sl.isBr, Bool.false_and, Bool.false_eq_true, pC, pIx, look, Sl.val, hot, hot1, Option.bind_some, if_false, atI_0, Option.map_some, pNe, sc2, dEq_str, decide_true, Bool.not_true, pEq, atI_3, dEq_int, pRet, pCaS, aCons, aNil, dLen, pNext, lookA, if_true, dSum, outS, Clean, flat]
theorem st_besidev (ds : List PyData) (n m : Nat) (t : Int) (ht : t ≠ 0) (zs : List Int) (l : zs.length ≤ 1000000) (k : cLoop t_pieces_beside_C0 tYesP e_pieces_beside_C0 ds [.no, .no, .sh (mvD (.slide n m t))] = some (zs.map .int)) : fn_pieces_beside [.list ds, mvD (.slide n m t)] = some (.sh (.int zs.sum)) := by
  have fl := flat_ints zs
  have il := ints_L zs
  simp only [mvD] at k ⊢
  simp only [fn_pieces_beside, fnB, List.length_cons, List.length_nil, Nat.zero_add, Nat.reduceAdd, runB, g_pieces_beside, pSeq, pIfS, tOrP, isB, pBin, pVar, startE, List.map_cons, List.map_nil, Nat.sub_self, List.replicate, List.cons_append, List.nil_append, List.getElem?_cons_succ, List.getElem?_cons_zero, Sl.isBr, Bool.false_and, Bool.false_eq_true, pC, pIx, look, Sl.val, hot, hot1, Option.bind_some, if_false, atI_0, Option.map_some, pNe, sc2, dEq_str, decide_true, Bool.not_true, pEq, atI_3, dEq_int, ht, decide_false, pRet, pCaS, aCons, aNil, dLen, pNext, lookA, pComp, iAny, frz, slotsE, slotE, dSum, k, fl, List.length_map, l, Bool.and_true, if_true, il, outS, Clean, flat]
theorem pv_beside_s (n m : Nat) (t : Int) (ht : t ≠ 0) (c : List Pc) (hl : c.length ≤ 100000) : fn_pieces_beside [.list (c.map pcD), mvD (.slide n m t)] = some (.sh (.int (wid n c))) :=
  st_besidev _ n m t ht _ (by simp; omega) (pc_beside n _ _ ⟨_, rfl⟩ c .no .no)
theorem st_turned (n : Nat) (p : Pc) : e_turned_C0 [.sh (.str ⟨#[p.1]⟩), .sh (.int p.2), .sh (.str ⟨#[n]⟩)] = some (.sh (pcD (if p.1 = n then (p.1, -p.2) else p)), [.sh (.str ⟨#[p.1]⟩), .sh (.int p.2), .sh (.str ⟨#[n]⟩)]) := by
  by_cases e : p.1 = n
  · simp only [e_turned_C0, pTup, dCons, pVar, List.getElem?_cons_zero, frz, pIf, isB, pBin, Sl.isBr, Bool.false_and, Bool.false_eq_true, pEq, sc2, look, Sl.val, if_false, pUn, dNeg, dNil, Option.map_some, Option.bind_some, List.getElem?_cons_succ, dEq_str, str1_eq, eq_true e, decide_true, if_true, List.length_cons, List.length_nil, Nat.zero_add, Nat.reduceAdd, Nat.reduceLeDiff, pcD]
  · simp only [e_turned_C0, pTup, dCons, pVar, List.getElem?_cons_zero, frz, pIf, isB, pBin, Sl.isBr, Bool.false_and, Bool.false_eq_true, pEq, sc2, look, Sl.val, if_false, pUn, dNeg, dNil, Option.map_some, Option.bind_some, List.getElem?_cons_succ, dEq_str, str1_eq, e, decide_false, List.length_cons, List.length_nil, Nat.zero_add, Nat.reduceAdd, Nat.reduceLeDiff, if_true, pcD]
theorem pc_turned (n : Nat) : ∀ (c : List Pc) (a b : Sl), cLoop t_turned_C0 tYesP e_turned_C0 (c.map pcD) [a, b, .sh (.str ⟨#[n]⟩)] = some ((c.flatMap (img (.turn n))).map pcD)
  | [], a, b => rfl
  | p :: c, a, b => by
    have e : t_turned_C0 (pcD p) [a, b, .sh (.str ⟨#[n]⟩)] = some [.sh (.str ⟨#[p.1]⟩), .sh (.int p.2), .sh (.str ⟨#[n]⟩)] := rfl
    have f : img (.turn n) p = [if p.1 = n then (p.1, -p.2) else p] := by
      simp only [img]
      split <;> rfl
    rw [List.map_cons, List.flatMap_cons, f, List.singleton_append, List.map_cons]
    exact cl_cons e (st_turned n p) (pc_turned n c _ _)
theorem img_len_t (n : Nat) : ∀ c : List Pc, (c.flatMap (img (.turn n))).length = c.length
  | [] => rfl
  | p :: c => by
    have : (img (.turn n) p).length = 1 := by simp only [img]; split <;> rfl
    rw [List.flatMap_cons, List.length_append, this, img_len_t n c, List.length_cons]
    omega
theorem img_len_c (n m : Nat) : ∀ c : List Pc, (c.flatMap (img (.change n m))).length = c.length
  | [] => rfl
  | p :: c => by
    have : (img (.change n m) p).length = 1 := by
      simp only [img]
      split
      · rfl
      · split <;> rfl
    rw [List.flatMap_cons, List.length_append, this, img_len_c n m c, List.length_cons]
    omega
theorem pv_turned (n : Nat) (c : List Pc) (hl : c.length ≤ 100000) : fn_turned [.list (c.map pcD), .str ⟨#[n]⟩] = some (.ow ((c.flatMap (img (.turn n))).map pcD)) := by
  have k := pc_turned n c .no .no
  have l : (c.flatMap (img (.turn n))).length ≤ 1000000 := by rw [img_len_t]; omega
  simp only [fn_turned, fnB, List.length_cons, List.length_nil, Nat.zero_add, Nat.reduceAdd, runB, g_turned, pRet, pComp, iAny, pVar, startE, List.map_cons, List.map_nil, Nat.sub_self, List.replicate, List.cons_append, List.nil_append, List.getElem?_cons_zero, frz, Option.bind_some, slotsE, slotE, List.getElem?_cons_succ, Sl.val, k, flatA_pc, List.length_map, l, decide_true, Bool.and_true, if_true, outS, Clean]
noncomputable abbrev swapD (n m : Nat) : PyData := .dict [(.str ⟨#[n]⟩, .str ⟨#[m]⟩), (.str ⟨#[m]⟩, .str ⟨#[n]⟩)]
theorem st_disp (n m : Nat) (h : n ≠ m) (x0 x3 : Sl) : pDisp (((pVar 1), (pVar 2)) :: (((pVar 2), (pVar 1)) :: [])) [x0, .sh (.str ⟨#[n]⟩), .sh (.str ⟨#[m]⟩), x3] = some (.sh (swapD n m), [x0, .sh (.str ⟨#[n]⟩), .sh (.str ⟨#[m]⟩), x3]) := by
  have e : pPairs (((pVar 1), (pVar 2)) :: (((pVar 2), (pVar 1)) :: [])) [x0, .sh (.str ⟨#[n]⟩), .sh (.str ⟨#[m]⟩), x3] = some ([(.str ⟨#[n]⟩, .str ⟨#[m]⟩), (.str ⟨#[m]⟩, .str ⟨#[n]⟩)], [x0, .sh (.str ⟨#[n]⟩), .sh (.str ⟨#[m]⟩), x3]) := rfl
  have k : keysOf [(.str ⟨#[n]⟩, .str ⟨#[m]⟩), (.str ⟨#[m]⟩, .str ⟨#[n]⟩)] = some [.inr ⟨#[n]⟩, .inr ⟨#[m]⟩] := rfl
  have nd : ([.inr ⟨#[n]⟩, .inr ⟨#[m]⟩] : List Key).Nodup := by
    simp only [List.nodup_cons, List.mem_singleton, Sum.inr.injEq, str1_eq, h, List.not_mem_nil, not_false_eq_true, List.nodup_nil, and_self]
  unfold pDisp
  rw [e]
  simp only [Option.bind_some, k]
  rw [decide_eq_true nd]
  rfl
theorem st_get2 (n m x : Nat) (b : Sl) : pGet2 (pVar 2) (pVar 0) (pVar 0) [.sh (.str ⟨#[x]⟩), b, .sh (swapD n m)] = some (.sh (.str ⟨#[if x = n then m else if x = m then n else x]⟩), [.sh (.str ⟨#[x]⟩), b, .sh (swapD n m)]) := by
  have g : getK [(.str ⟨#[n]⟩, .str ⟨#[m]⟩), (.str ⟨#[m]⟩, .str ⟨#[n]⟩)] (.inr ⟨#[x]⟩) = if n = x then some (.str ⟨#[m]⟩) else if m = x then some (.str ⟨#[n]⟩) else none := by
    simp only [getK, keyOf, Option.some.injEq, Sum.inr.injEq, str1_eq]
  have e : pGet2 (pVar 2) (pVar 0) (pVar 0) [.sh (.str ⟨#[x]⟩), b, .sh (swapD n m)] = (if flat ((getK [(.str ⟨#[n]⟩, .str ⟨#[m]⟩), (.str ⟨#[m]⟩, .str ⟨#[n]⟩)] (.inr ⟨#[x]⟩)).getD (.str ⟨#[x]⟩)) then some (.sh ((getK [(.str ⟨#[n]⟩, .str ⟨#[m]⟩), (.str ⟨#[m]⟩, .str ⟨#[n]⟩)] (.inr ⟨#[x]⟩)).getD (.str ⟨#[x]⟩)), [.sh (.str ⟨#[x]⟩), b, .sh (swapD n m)]) else none) := rfl
  rw [e, g]
  by_cases h1 : x = n
  · have h1' : n = x := h1.symm
    simp only [h1, if_true, Option.getD_some, flat]
  · have h1' : ¬ n = x := fun z => h1 z.symm
    by_cases h2 : x = m
    · have h2' : m = x := h2.symm
      simp only [h1, h1', h2, if_true, if_false, Option.getD_some, flat]
      simp [show ¬ n = m from fun z => h1' (z.trans h2'), show ¬ m = n from fun z => h1' (z.symm.trans h2'), flat]
    · have h2' : ¬ m = x := fun z => h2 z.symm
      simp only [h1, h1', h2, h2', if_true, if_false, Option.getD_none, flat]
theorem st_changed (n m : Nat) (p : Pc) : e_changed_C0 [.sh (.str ⟨#[p.1]⟩), .sh (.int p.2), .sh (swapD n m)] = some (.sh (pcD ((if p.1 = n then m else if p.1 = m then n else p.1), p.2)), [.sh (.str ⟨#[p.1]⟩), .sh (.int p.2), .sh (swapD n m)]) := by
  have g := st_get2 n m p.1 (.sh (.int p.2))
  simp only [e_changed_C0, pTup, dCons, dNil, g, Option.bind_some, Option.map_some, frz, pVar, List.getElem?_cons_zero, List.getElem?_cons_succ, pcD, List.length_cons, List.length_nil, Nat.zero_add, Nat.reduceAdd, Nat.reduceLeDiff, if_true]
theorem pc_changed (n m : Nat) : ∀ (c : List Pc) (a b : Sl), cLoop t_changed_C0 tYesP e_changed_C0 (c.map pcD) [a, b, .sh (swapD n m)] = some ((c.flatMap (img (.change n m))).map pcD)
  | [], a, b => rfl
  | p :: c, a, b => by
    have e : t_changed_C0 (pcD p) [a, b, .sh (swapD n m)] = some [.sh (.str ⟨#[p.1]⟩), .sh (.int p.2), .sh (swapD n m)] := rfl
    have f : img (.change n m) p = [((if p.1 = n then m else if p.1 = m then n else p.1), p.2)] := by
      simp only [img]
      split
      · rfl
      · split <;> rfl
    rw [List.map_cons, List.flatMap_cons, f, List.singleton_append, List.map_cons]
    exact cl_cons e (st_changed n m p) (pc_changed n m c _ _)
theorem pv_changed (n m : Nat) (h : n ≠ m) (c : List Pc) (hl : c.length ≤ 100000) : fn_changed [.list (c.map pcD), .str ⟨#[n]⟩, .str ⟨#[m]⟩] = some (.ow ((c.flatMap (img (.change n m))).map pcD)) := by
  have k := pc_changed n m c .no .no
  have l : (c.flatMap (img (.change n m))).length ≤ 1000000 := by rw [img_len_c]; omega
  have d := st_disp n m h (.sh (.list (c.map pcD))) .no
  simp only [fn_changed, fnB, List.length_cons, List.length_nil, Nat.zero_add, Nat.reduceAdd, runB, g_changed, pSeq, pSet, startE, List.map_cons, List.map_nil, Nat.reduceSub, List.replicate, List.cons_append, List.nil_append, d, PL.settle, frz, frzAll, Option.bind_some, Nat.reduceLT, List.set_cons_succ, List.set_cons_zero, if_true, pRet, pComp, iAny, pVar, slotsE, slotE, List.getElem?_cons_zero, List.getElem?_cons_succ, Sl.val, k, flatA_pc, List.length_map, l, decide_true, Bool.and_true, outS, Clean]
noncomputable def tn (n : Nat) (p : Pc) : Pc := if p.1 = n then (p.1, -p.2) else p
noncomputable def sw (n m x : Nat) : Nat := if x = n then m else if x = m then n else x
theorem flat_tn (n : Nat) : ∀ c : List Pc, c.flatMap (img (.turn n)) = c.map (tn n)
  | [] => rfl
  | p :: c => by
    rw [List.flatMap_cons, flat_tn n c, List.map_cons]
    simp only [img, tn]
    split <;> rfl
theorem flat_sw (n m : Nat) : ∀ c : List Pc, c.flatMap (img (.change n m)) = c.map fun p => ((sw n m p.1, p.2) : Pc)
  | [] => rfl
  | p :: c => by
    rw [List.flatMap_cons, flat_sw n m c, List.map_cons]
    simp only [img, sw]
    split
    · rfl
    · split <;> rfl
theorem red_map {g : Pc → Pc} (h0 : ∀ p, p.2 ≠ 0 → (g p).2 ≠ 0) (h1 : ∀ p q, p.1 ≠ q.1 → (g p).1 ≠ (g q).1) : ∀ {c : List Pc}, NH.Red c → NH.Red (c.map g)
  | [], _ => trivial
  | p :: c, h => by
    rw [List.map_cons]
    refine NH.Red.cons (h0 p h.head) (fun q hq => ?_) (red_map h0 h1 h.tail)
    cases c with
    | nil => simp at hq
    | cons r c =>
      simp at hq
      subst hq
      exact h1 p r (h.next r (by simp))
theorem short_of_red {c : List Pc} (h : NH.Red c) : NH.short c = c := by rw [NH.short_eq_runs, NH.runs_of_red h]
theorem once_tn (n : Nat) {c : List Pc} (h : NH.Red c) : NH.short (c.flatMap (img (.turn n))) = c.flatMap (img (.turn n)) := by
  rw [flat_tn]
  refine short_of_red (red_map (fun p hp => ?_) (fun p q hq => ?_) h)
  · unfold tn
    split
    · simpa using hp
    · exact hp
  · have : ∀ p : Pc, (tn n p).1 = p.1 := fun p => by unfold tn; split <;> rfl
    rw [this, this]
    exact hq
theorem once_sw {n m : Nat} (ne : n ≠ m) {c : List Pc} (h : NH.Red c) : NH.short (c.flatMap (img (.change n m))) = c.flatMap (img (.change n m)) := by
  rw [flat_sw]
  refine short_of_red (red_map (g := fun p => ((sw n m p.1, p.2) : Pc)) (fun p hp => hp) (fun p q hq => ?_) h)
  show sw n m p.1 ≠ sw n m q.1
  unfold sw
  split <;> split <;> (try split) <;> (try split) <;> omega
theorem flat_one {g : Pc → List Pc} (h : ∀ p, NH.short (g p) = NH.short [p]) : ∀ c : List Pc, NH.short (c.flatMap g) = NH.short c
  | [] => rfl
  | p :: c => by
    rw [List.flatMap_cons]
    exact NH.one_app (h p) (flat_one h c)
theorem slide_zero (n m : Nat) (c : List Pc) : NH.short (c.flatMap (img (.slide n m 0))) = NH.short c := by
  refine flat_one (fun p => ?_) c
  obtain ⟨x, a⟩ := p
  rw [img_slide]
  split
  · rename_i e
    subst e
    have z : NH.short [((m, 0) : Pc)] = NH.short [] := short_zero m
    have e1 : NH.short [((x, 1) : Pc), (m, 0)] = NH.short [((x, 1) : Pc)] := NH.one_right [((x, 1) : Pc)] z
    have e2 : NH.short (NH.contr [((x, 1) : Pc), (m, 0)]) = NH.short [((x, -1) : Pc)] := NH.one_left (a := [((m, 0) : Pc)]) z [((x, -1) : Pc)]
    by_cases s : 0 ≤ a
    · obtain ⟨k, rfl⟩ : ∃ k : Nat, a = k := ⟨a.toNat, by omega⟩
      rw [NH.zpw_nat, NH.pw_like e1, NH.pw_run, Int.one_mul]
    · obtain ⟨k, rfl⟩ : ∃ k : Nat, a = -(k : Int) := ⟨(-a).toNat, by omega⟩
      rw [NH.zpw_neg, NH.pw_like e2, NH.pw_run, show (-1 : Int) * (k : Int) = -(k : Int) by omega]
  · rfl
noncomputable def Fit1 (r : List Pc) : Mv → Prop
  | .slide n _ _ => wid n r ≤ 300
  | _ => True
noncomputable instance (r : List Pc) (mv : Mv) : Decidable (Fit1 r mv) := by
  cases mv <;> (unfold Fit1; infer_instance)
noncomputable def Fits : List Pc → List Mv → Prop
  | _, [] => True
  | r, mv :: ms => Fit1 r mv ∧ Fits (NH.short (r.flatMap (img mv))) ms
theorem fit_len {r : List Pc} {mv : Mv} (h : Fit1 r mv) (hl : r.length ≤ 300) : (r.flatMap (img mv)).length ≤ 300 := by
  cases mv with
  | turn n => rw [flat_tn, List.length_map]; exact hl
  | change n m => rw [flat_sw, List.length_map]; exact hl
  | slide n m t =>
    have := wid_le (n := n) (m := m) (t := t) r
    have h : wid n r ≤ 300 := h
    omega
theorem fit_len' {r : List Pc} {mv : Mv} (h : Fit1 r mv) (hl : r.length ≤ 300) : (NH.short (r.flatMap (img mv))).length ≤ 300 := Nat.le_trans (NH.short_len _) (fit_len h hl)
theorem img_nails {mv : Mv} (hm : MvL mv) {c : List Pc} (h : NailsOk c) : NailsOk (c.flatMap (img mv)) := by
  intro p hp
  obtain ⟨q, hq, hp⟩ := List.mem_flatMap.mp hp
  have hq := h q hq
  cases mv with
  | turn n =>
    simp only [img] at hp
    split at hp <;> (rw [List.mem_singleton.mp hp]; exact hq)
  | change n m =>
    have h1 := hm.1.2
    have h2 := hm.2.1.2
    simp only [img] at hp
    split at hp
    · rw [List.mem_singleton.mp hp]; show m < 128; omega
    · split at hp
      · rw [List.mem_singleton.mp hp]; show n < 128; omega
      · rw [List.mem_singleton.mp hp]; exact hq
  | slide n m t =>
    have h1 := hm.1.2
    have h2 := hm.2.1.2
    have key : ∀ (k : Nat) (v : List Pc), p ∈ NH.pw k v → p ∈ v := fun k v z => by
      obtain ⟨l, hl, z⟩ := List.mem_flatten.mp z
      rw [(List.mem_replicate.mp hl).2] at z
      exact z
    simp only [img] at hp
    split at hp
    · split at hp <;> (have := key _ _ hp; simp at this; rcases this with z | z <;> (rw [z]; simp only; omega))
    · rw [List.mem_singleton.mp hp]; exact hq
theorem nails_short {c : List Pc} (h : NailsOk c) : NailsOk (NH.short c) := fun p hp => by
  obtain ⟨q, hq, e⟩ := short_nails hp
  rw [e]
  exact h q hq
noncomputable def fld (ms : List Mv) (r : List Pc) : List Pc := ms.foldl (fun r mv => NH.short (r.flatMap (img mv))) r
theorem fld_nails : ∀ (ms : List Mv) {r : List Pc}, (∀ mv ∈ ms, MvL mv) → NailsOk r → NailsOk (fld ms r)
  | [], r, _, h => h
  | mv :: ms, r, hm, h => fld_nails ms (fun x hx => hm x (List.mem_cons_of_mem _ hx)) (nails_short (img_nails (hm mv (List.mem_cons_self ..)) h))
theorem fld_len : ∀ (ms : List Mv) {r : List Pc}, Fits r ms → r.length ≤ 300 → (fld ms r).length ≤ 300
  | [], r, _, h => h
  | mv :: ms, r, hf, h => fld_len ms hf.2 (fit_len' hf.1 h)
theorem pv_repeated (v : List Pc) (a : Int) (hv : v.length ≤ 10) (ha : a.natAbs ≤ 10000) : fn_repeated [.list (v.map pcD), .int a] = some (.ow ((NH.zpw a v).map pcD)) := by
  obtain ⟨k, hk⟩ : ∃ k, a.natAbs = k := ⟨_, rfl⟩
  have ec := pv_contrary v (by omega)
  have lk : v.length * k ≤ 1000000 := Nat.le_trans (Nat.mul_le_mul hv (show k ≤ 10000 by omega)) (by decide)
  by_cases neg : a < 0
  · have hk2 : (-a).toNat = k := by omega
    have lm : -1000000 ≤ -a ∧ -a ≤ 1000000 := by omega
    have lc : (NH.contr v).length * k ≤ 1000000 := by rw [NH.contr_length]; exact lk
    have z : NH.zpw a v = (List.replicate k (NH.contr v)).flatten := by simp [NH.zpw, neg, NH.pw, hk]
    rw [z]
    simp only [fn_repeated, fnB, List.length_cons, List.length_nil, Nat.zero_add, Nat.reduceAdd, runB, g_repeated, pRet, pBin, pIf, isB, pVar, startE, List.map_cons, List.map_nil, Nat.sub_self, List.replicate, List.cons_append, List.nil_append, List.getElem?_cons_succ, List.getElem?_cons_zero, Sl.isBr, Bool.false_and, Bool.false_eq_true, pC, sc2, look, Sl.val, dCmp, Cm.i, Cm.s, Option.bind_some, if_false, neg, decide_true, Option.map_some, pCall, aCons, aNil, lookA, ec, if_true, pCaS, dAbs, pMul, hot, hot1, Bool.not_false, Bool.true_or, Bool.and_true, List.length_map, hk2, lc, lm, and_self, rep_map, outS, Clean, flatA_pc]
  · have hk2 : a.toNat = k := by omega
    have lm : -1000000 ≤ a ∧ a ≤ 1000000 := by omega
    have z : NH.zpw a v = (List.replicate k v).flatten := by simp [NH.zpw, neg, NH.pw, hk]
    rw [z]
    simp only [fn_repeated, fnB, List.length_cons, List.length_nil, Nat.zero_add, Nat.reduceAdd, runB, g_repeated, pRet, pBin, pIf, isB, pVar, startE, List.map_cons, List.map_nil, Nat.sub_self, List.replicate, List.cons_append, List.nil_append, List.getElem?_cons_succ, List.getElem?_cons_zero, Sl.isBr, Bool.false_and, Bool.false_eq_true, pC, sc2, look, Sl.val, dCmp, Cm.i, Cm.s, Option.bind_some, if_false, neg, decide_false, Option.map_some, pCall, aCons, aNil, lookA, pCaS, dAbs, pMul, hot, hot1, Bool.not_false, Bool.true_or, Bool.and_true, List.length_map, hk2, lk, lm, and_self, decide_true, rep_map, if_true, outS, Clean, flatA_pc]
theorem st_slid_y (x0 a b : Sl) (n m : Nat) (t : Int) (p : Pc) (f L : List Pc) (h : p.1 = n) (e : fn_repeated [.list ([((n, 1) : Pc), (m, t)].map pcD), .int p.2] = some (.ow (L.map pcD))) (lb : f.length + L.length ≤ 1000000) : (t_slid_L0 (pcD p) [x0, .sh (.str ⟨#[n]⟩), .sh (.str ⟨#[m]⟩), .sh (.int t), .ow (f.map pcD), a, b]).bind g_slid_L0 = some ([x0, .sh (.str ⟨#[n]⟩), .sh (.str ⟨#[m]⟩), .sh (.int t), .ow ((f ++ L).map pcD), .sh (.str ⟨#[p.1]⟩), .sh (.int p.2)], .nx) := by
  have tt : t_slid_L0 (pcD p) [x0, .sh (.str ⟨#[n]⟩), .sh (.str ⟨#[m]⟩), .sh (.int t), .ow (f.map pcD), a, b] = some [x0, .sh (.str ⟨#[n]⟩), .sh (.str ⟨#[m]⟩), .sh (.int t), .ow (f.map pcD), .sh (.str ⟨#[p.1]⟩), .sh (.int p.2)] := rfl
  rw [tt, Option.bind_some]
  simp only [List.map_cons, List.map_nil, pcD] at e
  subst h
  simp only [g_slid_L0, pIfS, isB, pBin, pVar, List.getElem?_cons_succ, List.getElem?_cons_zero, Sl.isBr, Bool.false_and, Bool.false_eq_true, pEq, sc2, look, Sl.val, if_false, Option.bind_some, dEq_str, decide_true, Option.map_some, pExpr, pExtend, pCall, aCons, pLst, dCons, pTup, frz, pC, dNil, aNil, pAppend, List.length_cons, List.length_nil, Nat.zero_add, Nat.reduceAdd, Nat.reduceLeDiff, if_true, lookA, e, List.length_map, lb, ← List.map_append, List.set_cons_succ, List.set_cons_zero]
theorem st_slid_n (x0 a b : Sl) (n m : Nat) (t : Int) (p : Pc) (f : List Pc) (h : p.1 ≠ n) (lb : f.length < 1000000) : (t_slid_L0 (pcD p) [x0, .sh (.str ⟨#[n]⟩), .sh (.str ⟨#[m]⟩), .sh (.int t), .ow (f.map pcD), a, b]).bind g_slid_L0 = some ([x0, .sh (.str ⟨#[n]⟩), .sh (.str ⟨#[m]⟩), .sh (.int t), .ow ((f ++ [p]).map pcD), .sh (.str ⟨#[p.1]⟩), .sh (.int p.2)], .nx) := by
  have tt : t_slid_L0 (pcD p) [x0, .sh (.str ⟨#[n]⟩), .sh (.str ⟨#[m]⟩), .sh (.int t), .ow (f.map pcD), a, b] = some [x0, .sh (.str ⟨#[n]⟩), .sh (.str ⟨#[m]⟩), .sh (.int t), .ow (f.map pcD), .sh (.str ⟨#[p.1]⟩), .sh (.int p.2)] := rfl
  have mm : ∀ v : Pc, (f ++ [v]).map pcD = f.map pcD ++ [PyData.tuple [.str ⟨#[v.1]⟩, .int v.2]] := fun v => by simp [pcD]
  rw [tt, Option.bind_some, mm]
  simp only [g_slid_L0, pIfS, isB, pBin, pVar, List.getElem?_cons_succ, List.getElem?_cons_zero, Sl.isBr, Bool.false_and, Bool.false_eq_true, pEq, sc2, look, Sl.val, if_false, Option.bind_some, dEq_str, str1_eq, h, decide_false, Option.map_some, pExpr, pExtend, pCall, aCons, pLst, dCons, pTup, frz, pC, dNil, aNil, pAppend, List.length_cons, List.length_nil, Nat.zero_add, Nat.reduceAdd, Nat.reduceLeDiff, if_true, lookA, List.length_map, lb, List.set_cons_succ, List.set_cons_zero]
theorem img_sl (n m : Nat) (t : Int) (p : Pc) : img (.slide n m t) p = if p.1 = n then NH.zpw p.2 [(n, 1), (m, t)] else [p] := img_slide n m t p.2 p.1
theorem pl_slid (x0 : Sl) (n m : Nat) (t : Int) : ∀ (c f : List Pc) (a b : Sl), f.length + (c.flatMap (img (.slide n m t))).length ≤ 20000 → ∃ a' b', pLoop t_slid_L0 g_slid_L0 (c.map pcD) [x0, .sh (.str ⟨#[n]⟩), .sh (.str ⟨#[m]⟩), .sh (.int t), .ow (f.map pcD), a, b] = some ([x0, .sh (.str ⟨#[n]⟩), .sh (.str ⟨#[m]⟩), .sh (.int t), .ow ((f ++ c.flatMap (img (.slide n m t))).map pcD), a', b'], .nx)
  | [], f, a, b, _ => ⟨a, b, by simp [pLoop]⟩
  | p :: c, f, a, b, h => by
    rw [List.flatMap_cons, List.length_append] at h
    have step : (t_slid_L0 (pcD p) [x0, .sh (.str ⟨#[n]⟩), .sh (.str ⟨#[m]⟩), .sh (.int t), .ow (f.map pcD), a, b]).bind g_slid_L0 = some ([x0, .sh (.str ⟨#[n]⟩), .sh (.str ⟨#[m]⟩), .sh (.int t), .ow ((f ++ img (.slide n m t) p).map pcD), .sh (.str ⟨#[p.1]⟩), .sh (.int p.2)], .nx) := by
      by_cases e : p.1 = n
      · have l := img_len_slide (m := m) (t := t) e
        have r := pv_repeated [((n, 1) : Pc), (m, t)] p.2 (by simp) (by omega)
        rw [img_sl, if_pos e] at h l ⊢
        exact st_slid_y x0 a b n m t p f _ e r (by omega)
      · rw [img_sl, if_neg e]
        exact st_slid_n x0 a b n m t p f e (by omega)
    obtain ⟨a2, b2, e2⟩ := pl_slid x0 n m t c (f ++ img (.slide n m t) p) (.sh (.str ⟨#[p.1]⟩)) (.sh (.int p.2)) (by rw [List.length_append]; omega)
    refine ⟨a2, b2, ?_⟩
    rw [List.map_cons, pLoop, step, List.flatMap_cons, ← List.append_assoc]
    exact e2
theorem pv_slid (n m : Nat) (t : Int) (c : List Pc) (h : (c.flatMap (img (.slide n m t))).length ≤ 20000) : fn_slid [.list (c.map pcD), .str ⟨#[n]⟩, .str ⟨#[m]⟩, .int t] = some (.ow ((NH.short (c.flatMap (img (.slide n m t)))).map pcD)) := by
  obtain ⟨a, b, e⟩ := pl_slid (.sh (.list (c.map pcD))) n m t c [] .no .no (by simpa using h)
  have s := pv_short_form (c.flatMap (img (.slide n m t))) (by omega)
  simp only [List.map_nil, List.nil_append] at e
  simp only [fn_slid, fnB, List.length_cons, List.length_nil, Nat.zero_add, Nat.reduceAdd, runB, g_slid, pSeq, pSet, pLst, dNil, startE, List.map_cons, List.map_nil, Nat.reduceSub, List.replicate, List.cons_append, List.nil_append, Option.bind_some, Nat.reduceLeDiff, if_true, PL.settle, frz, frzAll, Nat.reduceLT, List.set_cons_succ, List.set_cons_zero, pFor, iAny, pVar, pRet, pCall, aCons, Sl.isBr, Bool.false_and, Bool.false_eq_true, aNil, Option.map_some, if_false, List.getElem?_cons_zero, e, List.getElem?_cons_succ, lookA, look, Sl.val, s, outS, Clean, flatA_pc]
theorem once_t (n : Nat) (c : List Pc) (hl : c.length ≤ 4000) : fn_moved_once [.list (c.map pcD), mvD (.turn n)] = some (.ow ((c.flatMap (img (.turn n))).map pcD)) := by
  have e1 := pv_beside_t n (c.map pcD)
  have e2 := pv_turned n c (by omega)
  have g : ¬ (4000 : Int) < c.length := by omega
  simp only [mvD] at e1
  simp only [fn_moved_once, fnB, mvD, List.length_cons, List.length_nil, Nat.zero_add, Nat.reduceAdd, runB, g_moved_once, pSeq, pIfS, isB, pBin, pCall, aCons, pVar, startE, List.map_cons, List.map_nil, Nat.sub_self, List.replicate, List.cons_append, List.nil_append, List.getElem?_cons_zero, Sl.isBr, Bool.false_and, Bool.false_eq_true, aNil, Option.map_some, if_false, Option.bind_some, List.getElem?_cons_succ, lookA, look, Sl.val, e1, List.length_map, pC, sc2, dCmp, Cm.i, Cm.s, g, decide_false, pNext, pIx, hot, hot1, pEq, pRet, atI_0, dEq_str, decide_true, atI_1, e2, if_true, outS, Clean, flatA_pc]
theorem once_c (n m : Nat) (ne : n ≠ m) (c : List Pc) (hl : c.length ≤ 4000) : fn_moved_once [.list (c.map pcD), mvD (.change n m)] = some (.ow ((c.flatMap (img (.change n m))).map pcD)) := by
  have e1 := pv_beside_c n m (c.map pcD)
  have e2 := pv_changed n m ne c (by omega)
  have g : ¬ (4000 : Int) < c.length := by omega
  simp only [mvD] at e1
  simp only [fn_moved_once, fnB, mvD, List.length_cons, List.length_nil, Nat.zero_add, Nat.reduceAdd, runB, g_moved_once, pSeq, pIfS, isB, pBin, pCall, aCons, pVar, startE, List.map_cons, List.map_nil, Nat.sub_self, List.replicate, List.cons_append, List.nil_append, List.getElem?_cons_zero, Sl.isBr, Bool.false_and, Bool.false_eq_true, aNil, Option.map_some, if_false, Option.bind_some, List.getElem?_cons_succ, lookA, look, Sl.val, e1, List.length_map, pC, sc2, dCmp, Cm.i, Cm.s, g, decide_false, pNext, pIx, hot, hot1, pEq, pRet, atI_0, dEq_str, sn_ct, atI_1, decide_true, atI_2, e2, if_true, outS, Clean, flatA_pc]
theorem once_0 (n m : Nat) (c : List Pc) (hl : c.length ≤ 4000) : fn_moved_once [.list (c.map pcD), mvD (.slide n m 0)] = some (.br (.list (c.map pcD))) := by
  have e1 := pv_beside_0 n m (c.map pcD)
  have g : ¬ (4000 : Int) < c.length := by omega
  simp only [mvD] at e1
  simp only [fn_moved_once, fnB, mvD, List.length_cons, List.length_nil, Nat.zero_add, Nat.reduceAdd, runB, g_moved_once, pSeq, pIfS, isB, pBin, pCall, aCons, pVar, startE, List.map_cons, List.map_nil, Nat.sub_self, List.replicate, List.cons_append, List.nil_append, List.getElem?_cons_zero, Sl.isBr, Bool.false_and, Bool.false_eq_true, aNil, Option.map_some, if_false, Option.bind_some, List.getElem?_cons_succ, lookA, look, Sl.val, e1, List.length_map, pC, sc2, dCmp, Cm.i, Cm.s, g, decide_false, pNext, pIx, hot, hot1, pEq, pRet, atI_0, dEq_str, sn_st, atI_1, sn_sc, atI_2, atI_3, dEq_int, decide_true, if_true, outS, Clean, flat]
theorem once_s (n m : Nat) (t : Int) (ht : t ≠ 0) (c : List Pc) (hl : c.length ≤ 4000) (hw : wid n c ≤ 4000) : fn_moved_once [.list (c.map pcD), mvD (.slide n m t)] = some (.ow ((NH.short (c.flatMap (img (.slide n m t)))).map pcD)) := by
  have e1 := pv_beside_s n m t ht c (by omega)
  have w := wid_le (n := n) (m := m) (t := t) c
  have e2 := pv_slid n m t c (by omega)
  have g : ¬ (4000 : Int) < wid n c := by omega
  simp only [mvD] at e1
  simp only [fn_moved_once, fnB, mvD, List.length_cons, List.length_nil, Nat.zero_add, Nat.reduceAdd, runB, g_moved_once, pSeq, pIfS, isB, pBin, pCall, aCons, pVar, startE, List.map_cons, List.map_nil, Nat.sub_self, List.replicate, List.cons_append, List.nil_append, List.getElem?_cons_zero, Sl.isBr, Bool.false_and, Bool.false_eq_true, aNil, Option.map_some, if_false, Option.bind_some, List.getElem?_cons_succ, lookA, look, Sl.val, e1, pC, sc2, dCmp, Cm.i, Cm.s, g, decide_false, pNext, pIx, hot, hot1, pEq, pRet, atI_0, dEq_str, sn_st, atI_1, sn_sc, atI_2, atI_3, dEq_int, ht, e2, outS, Clean, flatA_pc, if_true]
noncomputable abbrev Held (s : Sl) (r : List Pc) : Prop := s = .ow (r.map pcD) ∨ s = .sh (.list (r.map pcD))
theorem st_mvd_ow (x0 x1 : PyData) (s a : Sl) (r R : List Pc) (mv : Mv) (hs : Held s r) (e : fn_moved_once [.list (r.map pcD), mvD mv] = some (.ow (R.map pcD))) : (t_moved_L0 (mvD mv) [.sh x0, .sh x1, s, a]).bind g_moved_L0 = some ([.sh x0, .sh x1, .ow (R.map pcD), .sh (mvD mv)], .nx) := by
  rcases hs with rfl | rfl
  · simp only [t_moved_L0, gNameP, List.length_cons, List.length_nil, Nat.zero_add, Nat.reduceAdd, Nat.reduceLT, List.set_cons_succ, List.set_cons_zero, if_true, g_moved_L0, Option.bind_some, pSet, pCall, aCons, pVar, List.getElem?_cons_succ, List.getElem?_cons_zero, Sl.isBr, Bool.false_and, Bool.false_eq_true, aNil, Option.map_some, if_false, lookA, look, Sl.val, e, PL.settle, frz, frzAll]
  · simp only [t_moved_L0, gNameP, List.length_cons, List.length_nil, Nat.zero_add, Nat.reduceAdd, Nat.reduceLT, List.set_cons_succ, List.set_cons_zero, if_true, g_moved_L0, Option.bind_some, pSet, pCall, aCons, pVar, List.getElem?_cons_succ, List.getElem?_cons_zero, Sl.isBr, Bool.false_and, Bool.false_eq_true, aNil, Option.map_some, if_false, lookA, look, Sl.val, e, PL.settle, frz, frzAll]
theorem st_mvd_br (x0 x1 : PyData) (s a : Sl) (r R : List Pc) (mv : Mv) (hs : Held s r) (e : fn_moved_once [.list (r.map pcD), mvD mv] = some (.br (.list (R.map pcD)))) : (t_moved_L0 (mvD mv) [.sh x0, .sh x1, s, a]).bind g_moved_L0 = some ([.sh x0, .sh x1, .sh (.list (R.map pcD)), .sh (mvD mv)], .nx) := by
  rcases hs with rfl | rfl
  · simp only [t_moved_L0, gNameP, List.length_cons, List.length_nil, Nat.zero_add, Nat.reduceAdd, Nat.reduceLT, List.set_cons_succ, List.set_cons_zero, if_true, g_moved_L0, Option.bind_some, pSet, pCall, aCons, pVar, List.getElem?_cons_succ, List.getElem?_cons_zero, Sl.isBr, Bool.false_and, Bool.false_eq_true, aNil, Option.map_some, if_false, lookA, look, Sl.val, e, PL.settle, frz, frzAll, flat, List.map_cons, frzSl, List.map_nil]
  · simp only [t_moved_L0, gNameP, List.length_cons, List.length_nil, Nat.zero_add, Nat.reduceAdd, Nat.reduceLT, List.set_cons_succ, List.set_cons_zero, if_true, g_moved_L0, Option.bind_some, pSet, pCall, aCons, pVar, List.getElem?_cons_succ, List.getElem?_cons_zero, Sl.isBr, Bool.false_and, Bool.false_eq_true, aNil, Option.map_some, if_false, lookA, look, Sl.val, e, PL.settle, frz, frzAll, flat, List.map_cons, frzSl, List.map_nil]
theorem st_mvd (x0 x1 : PyData) (s a : Sl) (r : List Pc) (mv : Mv) (hs : Held s r) (hr : NH.Red r) (hl : r.length ≤ 300) (hm : MvL mv) (hf : Fit1 r mv) : ∃ s', Held s' (NH.short (r.flatMap (img mv))) ∧ (t_moved_L0 (mvD mv) [.sh x0, .sh x1, s, a]).bind g_moved_L0 = some ([.sh x0, .sh x1, s', .sh (mvD mv)], .nx) := by
  cases mv with
  | turn n =>
    rw [once_tn n hr]
    exact ⟨_, Or.inl rfl, st_mvd_ow x0 x1 s a r _ _ hs (once_t n r (by omega))⟩
  | change n m =>
    rw [once_sw hm.2.2 hr]
    exact ⟨_, Or.inl rfl, st_mvd_ow x0 x1 s a r _ _ hs (once_c n m hm.2.2 r (by omega))⟩
  | slide n m t =>
    have hf : wid n r ≤ 300 := hf
    by_cases ht : t = 0
    · subst ht
      rw [slide_zero, short_of_red hr]
      exact ⟨_, Or.inr rfl, st_mvd_br x0 x1 s a r _ _ hs (once_0 n m r (by omega))⟩
    · exact ⟨_, Or.inl rfl, st_mvd_ow x0 x1 s a r _ _ hs (once_s n m t ht r (by omega) (by omega))⟩
theorem pl_moved (x0 x1 : PyData) : ∀ (ms : List Mv) (r : List Pc) (s a : Sl), Held s r → NH.Red r → r.length ≤ 300 → (∀ mv ∈ ms, MvL mv) → Fits r ms → ∃ s' a', Held s' (fld ms r) ∧ pLoop t_moved_L0 g_moved_L0 (ms.map mvD) [.sh x0, .sh x1, s, a] = some ([.sh x0, .sh x1, s', a'], .nx)
  | [], r, s, a, hs, _, _, _, _ => ⟨s, a, hs, rfl⟩
  | mv :: ms, r, s, a, hs, hr, hl, hm, hf => by
    obtain ⟨s1, h1, e1⟩ := st_mvd x0 x1 s a r mv hs hr hl (hm mv (List.mem_cons_self ..)) hf.1
    obtain ⟨s2, a2, h2, e2⟩ := pl_moved x0 x1 ms _ s1 (.sh (mvD mv)) h1 (NH.short_red _) (fit_len' hf.1 hl) (fun x hx => hm x (List.mem_cons_of_mem _ hx)) hf.2
    refine ⟨s2, a2, h2, ?_⟩
    rw [List.map_cons, pLoop, e1]
    exact e2
theorem st_moved (cd md : PyData) (S : List PyData) (ds : List PyData) (s' a' : Sl) (r : Sl) (hm : md = .list ds) (e1 : fn_check_moves [md] = some (.sh .none)) (e2 : fn_short_form [cd] = some (.ow S)) (e3 : pLoop t_moved_L0 g_moved_L0 ds [.sh cd, .sh md, .ow S, .no] = some ([.sh cd, .sh md, s', a'], .nx)) (h : (∃ L, s' = .ow L ∧ r = .ow L ∧ flatA L = true) ∨ ∃ L, s' = .sh (.list L) ∧ r = .br (.list L)) : fn_moved [cd, md] = some r := by
  subst hm
  rcases h with ⟨L, rfl, rfl, fl⟩ | ⟨L, rfl, rfl⟩
  · simp only [fn_moved, fnB, List.length_cons, List.length_nil, Nat.zero_add, Nat.reduceAdd, runB, g_moved, pSeq, pExpr, pCall, aCons, pVar, startE, List.map_cons, List.map_nil, Nat.reduceSub, List.replicate, List.cons_append, List.nil_append, List.getElem?_cons_succ, List.getElem?_cons_zero, Sl.isBr, Bool.false_and, Bool.false_eq_true, aNil, Option.map_some, if_false, Option.bind_some, lookA, look, Sl.val, e1, pSet, PL.settle, frz, frzAll, pFor, iAny, pRet, e2, Nat.reduceLT, List.set_cons_succ, List.set_cons_zero, if_true, e3, outS, Clean, fl]
  · simp only [fn_moved, fnB, List.length_cons, List.length_nil, Nat.zero_add, Nat.reduceAdd, runB, g_moved, pSeq, pExpr, pCall, aCons, pVar, startE, List.map_cons, List.map_nil, Nat.reduceSub, List.replicate, List.cons_append, List.nil_append, List.getElem?_cons_succ, List.getElem?_cons_zero, Sl.isBr, Bool.false_and, Bool.false_eq_true, aNil, Option.map_some, if_false, Option.bind_some, lookA, look, Sl.val, e1, pSet, PL.settle, frz, frzAll, pFor, iAny, pRet, e2, Nat.reduceLT, List.set_cons_succ, List.set_cons_zero, if_true, e3, outS, Clean, flat]
theorem pv_moved (c : List Pc) (ms : List Mv) (hl : c.length ≤ 300) (hm : ∀ mv ∈ ms, MvL mv) (hf : Fits (NH.short c) ms) : ∃ r, (r = .ow ((movs ms c).map pcD) ∨ r = .br (.list ((movs ms c).map pcD))) ∧ fn_moved [.list (c.map pcD), .list (ms.map mvD)] = some r := by
  have e1 := pv_check_moves ms hm
  have e2 := pv_short_form c (by omega)
  obtain ⟨s', a', h, e3⟩ := pl_moved (.list (c.map pcD)) (.list (ms.map mvD)) ms (NH.short c) (.ow ((NH.short c).map pcD)) .no (Or.inl rfl) (NH.short_red c) (Nat.le_trans (NH.short_len c) hl) hm hf
  rcases h with h | h
  · exact ⟨_, Or.inl rfl, st_moved _ _ _ _ s' a' _ rfl e1 e2 e3 (Or.inl ⟨_, h, rfl, flatA_pc _⟩)⟩
  · exact ⟨_, Or.inr rfl, st_moved _ _ _ _ s' a' _ rfl e1 e2 e3 (Or.inr ⟨_, h, rfl⟩)⟩
theorem back_s (n m : Nat) (t : Int) : fn_back_move [mvD (.slide n m t)] = some (.sh (mvD (.slide n m (-t)))) := by
  simp only [fn_back_move, fnB, mvD, List.length_cons, List.length_nil, Nat.zero_add, runB, g_back_move, pSeq, pIfS, isB, pBin, pVar, startE, List.map_cons, List.map_nil, Nat.sub_self, List.replicate, List.cons_append, List.nil_append, List.getElem?_cons_zero, Sl.isBr, Bool.false_and, Bool.false_eq_true, pC, pIx, look, Sl.val, hot, hot1, Option.bind_some, if_false, atI_0, Option.map_some, pEq, sc2, dEq_str, decide_true, pRet, pTup, dCons, frz, pUn, dNeg, dNil, pNext, atI_1, atI_2, atI_3, Nat.reduceAdd, Nat.reduceLeDiff, if_true, outS, Clean, flat, flatA, Bool.and_true]
theorem back_t (n : Nat) : fn_back_move [mvD (.turn n)] = some (.sh (mvD (.turn n))) := by
  simp only [fn_back_move, fnB, mvD, List.length_cons, List.length_nil, Nat.zero_add, runB, g_back_move, pSeq, pIfS, isB, pBin, pVar, startE, List.map_cons, List.map_nil, Nat.sub_self, List.replicate, List.cons_append, List.nil_append, List.getElem?_cons_zero, Sl.isBr, Bool.false_and, Bool.false_eq_true, pC, pIx, look, Sl.val, hot, hot1, Option.bind_some, if_false, atI_0, Option.map_some, pEq, sc2, dEq_str, sn_ts, decide_false, pRet, pTup, dCons, frz, pUn, dNeg, dNil, pNext, atI_1, outS, Clean, flat, flatA, Bool.and_true, if_true]
theorem back_c (n m : Nat) : fn_back_move [mvD (.change n m)] = some (.sh (mvD (.change n m))) := by
  simp only [fn_back_move, fnB, mvD, List.length_cons, List.length_nil, Nat.zero_add, runB, g_back_move, pSeq, pIfS, isB, pBin, pVar, startE, List.map_cons, List.map_nil, Nat.sub_self, List.replicate, List.cons_append, List.nil_append, List.getElem?_cons_zero, Sl.isBr, Bool.false_and, Bool.false_eq_true, pC, pIx, look, Sl.val, hot, hot1, Option.bind_some, if_false, atI_0, Option.map_some, pEq, sc2, dEq_str, sn_cs, decide_false, pRet, pTup, dCons, frz, pUn, dNeg, dNil, pNext, atI_1, atI_2, outS, Clean, flat, flatA, Bool.and_true, if_true]
theorem pv_back_move : ∀ mv : Mv, fn_back_move [mvD mv] = some (.sh (mvD mv.inv))
  | .turn n => back_t n
  | .change n m => back_c n m
  | .slide n m t => back_s n m t
theorem pc_back_moves : ∀ (ms : List Mv) (a : Sl), cLoop t_back_moves_C0 tYesP e_back_moves_C0 (ms.map mvD) [a] = some ((ms.map Mv.inv).map mvD)
  | [], a => rfl
  | mv :: ms, a => by
    have e : t_back_moves_C0 (mvD mv) [a] = some [.sh (mvD mv)] := rfl
    have e1 := pv_back_move mv
    have e2 : e_back_moves_C0 [.sh (mvD mv)] = some (.sh (mvD mv.inv), [.sh (mvD mv)]) := by
      simp only [e_back_moves_C0, pCall, aCons, pVar, List.getElem?_cons_zero, Sl.isBr, Bool.false_and, Bool.false_eq_true, aNil, Option.map_some, if_false, Option.bind_some, lookA, look, Sl.val, e1]
    rw [List.map_cons, List.map_cons, List.map_cons]
    exact cl_cons e e2 (pc_back_moves ms _)
noncomputable abbrev bck (ms : List Mv) : List Mv := ms.reverse.map Mv.inv
theorem pv_back_moves (ms : List Mv) (hm : ∀ mv ∈ ms, MvL mv) (hl : ms.length ≤ 1000) : fn_back_moves [.list (ms.map mvD)] = some (.ow ((bck ms).map mvD)) := by
  have e1 := pv_check_moves ms hm
  have k := pc_back_moves ms.reverse .no
  have f := flat_mv (bck ms)
  have l : ms.length ≤ 1000000 := by omega
  rw [List.map_reverse] at k
  simp only [fn_back_moves, fnB, List.length_cons, List.length_nil, Nat.zero_add, runB, g_back_moves, pSeq, pExpr, pCall, aCons, pVar, startE, List.map_cons, List.map_nil, Nat.sub_self, List.replicate, List.cons_append, List.nil_append, List.getElem?_cons_zero, Sl.isBr, Bool.false_and, Bool.false_eq_true, aNil, Option.map_some, if_false, Option.bind_some, lookA, look, Sl.val, e1, pRet, pComp, iRevP, frz, slotsE, slotE, k, f, List.length_map, List.length_reverse, l, decide_true, Bool.and_true, if_true, outS, Clean]
theorem st_due (x0 a : Sl) (f : List Mv) (mv : Mv) (lb : f.length < 1000000) : ∃ a', (t_law_back_due_L0 (mvD mv) [x0, .ow (f.map mvD), a]).bind g_law_back_due_L0 = some ([x0, .ow ((f ++ [mv.inv]).map mvD), a'], .nx) := by
  have mm : ∀ v : Mv, (f ++ [v]).map mvD = f.map mvD ++ [mvD v] := fun v => by simp
  have tt : t_law_back_due_L0 (mvD mv) [x0, .ow (f.map mvD), a] = some [x0, .ow (f.map mvD), .sh (mvD mv)] := rfl
  rw [tt, Option.bind_some]
  cases mv with
  | turn n => exact ⟨_, by simp only [mm, Mv.inv]; simp only [g_law_back_due_L0, pSeq, pIfS, isB, pBin, pVar, mvD, List.getElem?_cons_succ, List.getElem?_cons_zero, Sl.isBr, Bool.false_and, Bool.false_eq_true, pC, pIx, look, Sl.val, hot, hot1, Option.bind_some, if_false, atI_0, Option.map_some, pEq, sc2, dEq_str, sn_ts, decide_false, pSet, pCutT, oNone, oSome, pTup, dCons, pSub, iOp, if_true, frz, dNil, PL.settle, frzAll, pNext, flatA, flat, Bool.and_true, List.length_cons, List.length_nil, Nat.zero_add, Nat.reduceAdd, Bool.true_and, pExpr, pAppend, List.length_map, lb, List.set_cons_succ, List.set_cons_zero]; rfl⟩
  | change n m => exact ⟨_, by simp only [mm, Mv.inv]; simp only [g_law_back_due_L0, pSeq, pIfS, isB, pBin, pVar, mvD, List.getElem?_cons_succ, List.getElem?_cons_zero, Sl.isBr, Bool.false_and, Bool.false_eq_true, pC, pIx, look, Sl.val, hot, hot1, Option.bind_some, if_false, atI_0, Option.map_some, pEq, sc2, dEq_str, sn_cs, decide_false, pSet, pCutT, oNone, oSome, pTup, dCons, pSub, iOp, if_true, frz, dNil, PL.settle, frzAll, pNext, flatA, flat, Bool.and_true, List.length_cons, List.length_nil, Nat.zero_add, Nat.reduceAdd, Bool.true_and, pExpr, pAppend, List.length_map, lb, List.set_cons_succ, List.set_cons_zero]; rfl⟩
  | slide n m t =>
    have ct : pCutT false (pVar 2) oNone (oSome (pC (.int 3))) [x0, .ow (f.map mvD), .sh (mvD (.slide n m t))] = some (.sh (.tuple [.str "slide", .str ⟨#[n]⟩, .str ⟨#[m]⟩]), [x0, .ow (f.map mvD), .sh (mvD (.slide n m t))]) := rfl
    have ad : pBin pAddT false (pCutT false (pVar 2) oNone (oSome (pC (.int 3)))) (pTup (dCons (pBin pSub false (pC (.int 0)) (pBin pIx false (pVar 2) (pC (.int 3)))) dNil)) [x0, .ow (f.map mvD), .sh (mvD (.slide n m t))] = some (.sh (mvD (.slide n m (-t))), [x0, .ow (f.map mvD), .sh (mvD (.slide n m t))]) := by
      unfold pBin
      rw [ct]
      simp only [mvD, Sl.isBr, Bool.false_and, Bool.false_eq_true, pTup, dCons, pC, pVar, pIx, look, Sl.val, hot, hot1, Option.bind_some, if_false, pSub, sc2, iOp, if_true, frz, dNil, Option.map_some, pAddT, List.getElem?_cons_succ, List.getElem?_cons_zero, atI_3, Int.zero_sub, List.length_cons, List.length_nil, Nat.zero_add, Nat.reduceLeDiff, flatA, flat, Bool.and_true, Nat.reduceAdd, decide_true, List.isEmpty_cons, Bool.not_false, List.cons_append, List.nil_append]
    refine ⟨.sh (mvD (.slide n m (-t))), ?_⟩
    generalize hA : pBin pAddT false (pCutT false (pVar 2) oNone (oSome (pC (.int 3)))) (pTup (dCons (pBin pSub false (pC (.int 0)) (pBin pIx false (pVar 2) (pC (.int 3)))) dNil)) = AD at ad
    have gl : g_law_back_due_L0 = (pSeq (pIfS (isB (pBin pEq false (pBin pIx false (pVar 2) (pC (.int 0))) (pC (.str "slide"))))
      (pSet 2 AD)
      pNext)
      (pExpr (pAppend 1 (pVar 2)))) := by rw [← hA]; rfl
    rw [gl, mm, show (Mv.slide n m t).inv = .slide n m (-t) from rfl]
    simp only [mvD] at ad ⊢
    simp only [pSeq, pIfS, isB, pBin, pVar, List.getElem?_cons_succ, List.getElem?_cons_zero, Sl.isBr, Bool.false_and, Bool.false_eq_true, pC, pIx, look, Sl.val, hot, hot1, Option.bind_some, if_false, atI_0, Option.map_some, pEq, sc2, dEq_str, decide_true, pSet, PL.settle, frz, frzAll, pNext, ad, List.length_cons, List.length_nil, Nat.zero_add, Nat.reduceAdd, Nat.reduceLT, List.set_cons_succ, List.set_cons_zero, if_true, pExpr, pAppend, List.length_map, lb]
theorem pl_due (x0 : Sl) : ∀ (ms f : List Mv) (a : Sl), f.length + ms.length ≤ 1000 → ∃ a', pLoop t_law_back_due_L0 g_law_back_due_L0 (ms.map mvD) [x0, .ow (f.map mvD), a] = some ([x0, .ow ((f ++ ms.map Mv.inv).map mvD), a'], .nx)
  | [], f, a, _ => ⟨a, by simp [pLoop]⟩
  | mv :: ms, f, a, h => by
    rw [List.length_cons] at h
    obtain ⟨a1, e1⟩ := st_due x0 a f mv (by omega)
    obtain ⟨a2, e2⟩ := pl_due x0 ms (f ++ [mv.inv]) a1 (by rw [List.length_append, List.length_singleton]; omega)
    refine ⟨a2, ?_⟩
    rw [List.map_cons, pLoop, e1, List.map_cons, show f ++ mv.inv :: ms.map Mv.inv = f ++ [mv.inv] ++ ms.map Mv.inv by simp]
    exact e2
theorem pv_back_due (ms : List Mv) (hl : ms.length ≤ 1000) : fn_law_back_due [.list (ms.map mvD)] = some (.ow ((bck ms).map mvD)) := by
  obtain ⟨a, e⟩ := pl_due (.sh (.list (ms.map mvD))) ms.reverse [] .no (by simpa using hl)
  have f := flat_mv (bck ms)
  rw [List.map_reverse] at e
  simp only [List.map_nil, List.nil_append] at e
  simp only [fn_law_back_due, fnB, List.length_cons, List.length_nil, Nat.zero_add, runB, g_law_back_due, pSeq, pSet, pLst, dNil, startE, List.map_cons, List.map_nil, Nat.reduceSub, List.replicate, List.cons_append, List.nil_append, Option.bind_some, Nat.reduceLeDiff, if_true, PL.settle, frz, frzAll, Nat.reduceAdd, Nat.reduceLT, List.set_cons_succ, List.set_cons_zero, pFor, iRevP, pVar, pRet, List.getElem?_cons_zero, e, List.getElem?_cons_succ, Option.map_some, outS, Clean, f]
noncomputable def fitsB : List Pc → List Mv → Bool
  | _, [] => true
  | r, mv :: ms => decide (Fit1 r mv) && fitsB (NH.short (r.flatMap (img mv))) ms
theorem fitsB_iff : ∀ (ms : List Mv) (r : List Pc), fitsB r ms = true ↔ Fits r ms
  | [], r => by simp [fitsB, Fits]
  | mv :: ms, r => by simp only [fitsB, Fits, Bool.and_eq_true, decide_eq_true_eq, fitsB_iff ms]
theorem st_fit_y (x1 s a : Sl) (r R : List Pc) (mv : Mv) (hs : Held s r) (hw : Fit1 r mv) (hl : r.length ≤ 300) (e : fn_law_one_move [.list (r.map pcD), mvD mv] = some (.ow (R.map pcD))) : (t_law_fits_L0 (mvD mv) [s, x1, a]).bind g_law_fits_L0 = some ([.ow (R.map pcD), x1, .sh (mvD mv)], .nx) := by
  cases mv with
  | turn n =>
    simp only [mvD] at e
    rcases hs with rfl | rfl
    · simp only [t_law_fits_L0, gNameP, List.length_cons, List.length_nil, Nat.zero_add, Nat.reduceAdd, Nat.reduceLT, mvD, List.set_cons_succ, List.set_cons_zero, if_true, g_law_fits_L0, pEq, Option.bind_some, pSeq, pIfS, tAndP, isB, pBin, pVar, List.getElem?_cons_succ, List.getElem?_cons_zero, Sl.isBr, Bool.false_and, Bool.false_eq_true, pC, pIx, look, Sl.val, hot, hot1, if_false, atI_0, Option.map_some, sc2, dEq_str, sn_ts, decide_false, pCall, aCons, aNil, dCmp, Cm.i, Cm.s, lookA, pRet, pNext, pSet, PL.settle, frz, frzAll, e]
    · simp only [t_law_fits_L0, gNameP, List.length_cons, List.length_nil, Nat.zero_add, Nat.reduceAdd, Nat.reduceLT, mvD, List.set_cons_succ, List.set_cons_zero, if_true, g_law_fits_L0, pEq, Option.bind_some, pSeq, pIfS, tAndP, isB, pBin, pVar, List.getElem?_cons_succ, List.getElem?_cons_zero, Sl.isBr, Bool.false_and, Bool.false_eq_true, pC, pIx, look, Sl.val, hot, hot1, if_false, atI_0, Option.map_some, sc2, dEq_str, sn_ts, decide_false, pCall, aCons, aNil, dCmp, Cm.i, Cm.s, lookA, pRet, pNext, pSet, PL.settle, frz, frzAll, e]
  | change n m =>
    simp only [mvD] at e
    rcases hs with rfl | rfl
    · simp only [t_law_fits_L0, gNameP, List.length_cons, List.length_nil, Nat.zero_add, Nat.reduceAdd, Nat.reduceLT, mvD, List.set_cons_succ, List.set_cons_zero, if_true, g_law_fits_L0, pEq, Option.bind_some, pSeq, pIfS, tAndP, isB, pBin, pVar, List.getElem?_cons_succ, List.getElem?_cons_zero, Sl.isBr, Bool.false_and, Bool.false_eq_true, pC, pIx, look, Sl.val, hot, hot1, if_false, atI_0, Option.map_some, sc2, dEq_str, sn_cs, decide_false, pCall, aCons, aNil, dCmp, Cm.i, Cm.s, lookA, pRet, pNext, pSet, PL.settle, frz, frzAll, e]
    · simp only [t_law_fits_L0, gNameP, List.length_cons, List.length_nil, Nat.zero_add, Nat.reduceAdd, Nat.reduceLT, mvD, List.set_cons_succ, List.set_cons_zero, if_true, g_law_fits_L0, pEq, Option.bind_some, pSeq, pIfS, tAndP, isB, pBin, pVar, List.getElem?_cons_succ, List.getElem?_cons_zero, Sl.isBr, Bool.false_and, Bool.false_eq_true, pC, pIx, look, Sl.val, hot, hot1, if_false, atI_0, Option.map_some, sc2, dEq_str, sn_cs, decide_false, pCall, aCons, aNil, dCmp, Cm.i, Cm.s, lookA, pRet, pNext, pSet, PL.settle, frz, frzAll, e]
  | slide n m t =>
    have ew := pv_law_wide n m t r (by omega)
    have g : ¬ (300 : Int) < wid n r := by have h : wid n r ≤ 300 := hw; omega
    simp only [mvD] at e ew
    rcases hs with rfl | rfl
    · simp only [t_law_fits_L0, gNameP, List.length_cons, List.length_nil, Nat.zero_add, Nat.reduceAdd, Nat.reduceLT, mvD, List.set_cons_succ, List.set_cons_zero, if_true, g_law_fits_L0, pEq, Option.bind_some, pSeq, pIfS, tAndP, isB, pBin, pVar, List.getElem?_cons_succ, List.getElem?_cons_zero, Sl.isBr, Bool.false_and, Bool.false_eq_true, pC, pIx, look, Sl.val, hot, hot1, if_false, atI_0, Option.map_some, sc2, dEq_str, decide_true, pCall, aCons, aNil, dCmp, Cm.i, Cm.s, lookA, ew, g, decide_false, pRet, pNext, pSet, PL.settle, frz, frzAll, e]
    · simp only [t_law_fits_L0, gNameP, List.length_cons, List.length_nil, Nat.zero_add, Nat.reduceAdd, Nat.reduceLT, mvD, List.set_cons_succ, List.set_cons_zero, if_true, g_law_fits_L0, pEq, Option.bind_some, pSeq, pIfS, tAndP, isB, pBin, pVar, List.getElem?_cons_succ, List.getElem?_cons_zero, Sl.isBr, Bool.false_and, Bool.false_eq_true, pC, pIx, look, Sl.val, hot, hot1, if_false, atI_0, Option.map_some, sc2, dEq_str, decide_true, pCall, aCons, aNil, dCmp, Cm.i, Cm.s, lookA, ew, g, decide_false, pRet, pNext, pSet, PL.settle, frz, frzAll, e]
theorem st_fit_n (x1 s a : Sl) (r : List Pc) (mv : Mv) (hs : Held s r) (hw : ¬ Fit1 r mv) (hl : r.length ≤ 300) : ∃ E, (t_law_fits_L0 (mvD mv) [s, x1, a]).bind g_law_fits_L0 = some (E, .rt (.sh (.bool false))) := by
  cases mv with
  | turn n => exact absurd trivial hw
  | change n m => exact absurd trivial hw
  | slide n m t =>
    have ew := pv_law_wide n m t r (by omega)
    have g : (300 : Int) < wid n r := by have h : ¬ wid n r ≤ 300 := hw; omega
    simp only [mvD] at ew
    rcases hs with rfl | rfl
    · exact ⟨_, by simp only [t_law_fits_L0, gNameP, List.length_cons, List.length_nil, Nat.zero_add, Nat.reduceAdd, Nat.reduceLT, mvD, List.set_cons_succ, List.set_cons_zero, if_true, g_law_fits_L0, pEq, Option.bind_some, pSeq, pIfS, tAndP, isB, pBin, pVar, List.getElem?_cons_succ, List.getElem?_cons_zero, Sl.isBr, Bool.false_and, Bool.false_eq_true, pC, pIx, look, Sl.val, hot, hot1, if_false, atI_0, Option.map_some, sc2, dEq_str, decide_true, pCall, aCons, aNil, dCmp, Cm.i, Cm.s, lookA, ew, g, pRet, pNext, pSet, PL.settle, frz, frzAll]; rfl⟩
    · exact ⟨_, by simp only [t_law_fits_L0, gNameP, List.length_cons, List.length_nil, Nat.zero_add, Nat.reduceAdd, Nat.reduceLT, mvD, List.set_cons_succ, List.set_cons_zero, if_true, g_law_fits_L0, pEq, Option.bind_some, pSeq, pIfS, tAndP, isB, pBin, pVar, List.getElem?_cons_succ, List.getElem?_cons_zero, Sl.isBr, Bool.false_and, Bool.false_eq_true, pC, pIx, look, Sl.val, hot, hot1, if_false, atI_0, Option.map_some, sc2, dEq_str, decide_true, pCall, aCons, aNil, dCmp, Cm.i, Cm.s, lookA, ew, g, pRet, pNext, pSet, PL.settle, frz, frzAll]; rfl⟩
theorem pl_fits (x1 : Sl) : ∀ (ms : List Mv) (r : List Pc) (s a : Sl), Held s r → NailsOk r → r.length ≤ 300 → (∀ mv ∈ ms, MvL mv) → ∃ E, pLoop t_law_fits_L0 g_law_fits_L0 (ms.map mvD) [s, x1, a] = some (E, if fitsB r ms then .nx else .rt (.sh (.bool false)))
  | [], r, s, a, _, _, _, _ => ⟨_, rfl⟩
  | mv :: ms, r, s, a, hs, hn, hl, hm => by
    have h1 := hm mv (List.mem_cons_self ..)
    by_cases hw : Fit1 r mv
    · have e1 := st_fit_y x1 s a r _ mv hs hw hl (pv_one_move r mv (by have := fit_len hw hl; omega) (img_nails h1 hn))
      obtain ⟨E, e2⟩ := pl_fits x1 ms _ _ (.sh (mvD mv)) (Or.inl rfl) (nails_short (img_nails h1 hn)) (fit_len' hw hl) fun x hx => hm x (List.mem_cons_of_mem _ hx)
      refine ⟨E, ?_⟩
      rw [List.map_cons, pLoop, e1, fitsB, decide_eq_true hw, Bool.true_and]
      exact e2
    · obtain ⟨E, e1⟩ := st_fit_n x1 s a r mv hs hw hl
      refine ⟨E, ?_⟩
      rw [List.map_cons, pLoop, e1, fitsB, decide_eq_false hw, Bool.false_and]
      rfl
theorem pv_fits (r : List Pc) (ms : List Mv) (hn : NailsOk r) (hl : r.length ≤ 300) (hm : ∀ mv ∈ ms, MvL mv) : fn_law_fits [.list (r.map pcD), .list (ms.map mvD)] = some (.sh (.bool (fitsB r ms))) := by
  obtain ⟨E, e⟩ := pl_fits (.sh (.list (ms.map mvD))) ms r (.sh (.list (r.map pcD))) .no (Or.inr rfl) hn hl hm
  cases h : fitsB r ms with
  | true =>
    rw [h, if_pos rfl] at e
    simp only [fn_law_fits, fnB, List.length_cons, List.length_nil, Nat.zero_add, Nat.reduceAdd, runB, g_law_fits, pSeq, pFor, iAny, pVar, startE, List.map_cons, List.map_nil, Nat.reduceSub, List.replicate, List.cons_append, List.nil_append, List.getElem?_cons_succ, List.getElem?_cons_zero, frz, Option.bind_some, e, pRet, pC, outS, Clean, flat, if_true]
  | false =>
    rw [h, if_neg (by decide)] at e
    simp only [fn_law_fits, fnB, List.length_cons, List.length_nil, Nat.zero_add, Nat.reduceAdd, runB, g_law_fits, pSeq, pFor, iAny, pVar, startE, List.map_cons, List.map_nil, Nat.reduceSub, List.replicate, List.cons_append, List.nil_append, List.getElem?_cons_succ, List.getElem?_cons_zero, frz, Option.bind_some, e, pRet, pC, outS, Clean, flat, if_true]
theorem pv_law_nailsL (cell : Int) (many : Nat) (hm : many ≤ 26) : ∃ w : List Nat, fn_law_nails [.int cell, .int many] = some (.ow (w.map stD)) ∧ w.length = many ∧ (∀ a ∈ w, Ltr a) ∧ w.Nodup := by
  have m0 := Int.emod_nonneg (cell / 26) (show (12 : Int) ≠ 0 by decide)
  have m1 := Int.emod_lt_of_pos (cell / 26) (show (0 : Int) < 12 by decide)
  obtain ⟨i, hi⟩ : ∃ i : Nat, cell / 26 % 12 = i := ⟨(cell / 26 % 12).toNat, by omega⟩
  obtain ⟨v, ev, v0, v1, v2⟩ := step_at' i (by omega)
  have e := pc_nails' cell v v0 v1 many 0 .no
  simp only [Int.natCast_zero] at e
  refine ⟨(List.range' 0 many).map (nailAt cell v), st_nails2 cell many v i many _ (by decide) hi (by rw [atI_nat', ev]) (by omega) (by omega) (by simp) e (flat_stD _) (by simp; omega), by simp, fun a ha => ?_, ?_⟩
  · obtain ⟨k, _, rfl⟩ := List.mem_map.mp ha
    have := Int.emod_nonneg (cell + (k : Int) * v) (show (26 : Int) ≠ 0 by decide)
    have := Int.emod_lt_of_pos (cell + (k : Int) * v) (show (0 : Int) < 26 by decide)
    unfold Ltr nailAt
    omega
  · rw [List.Nodup, List.pairwise_map]
    refine List.Pairwise.imp_of_mem ?_ (List.pairwise_lt_range' (s := 0) (n := many))
    intro a b ha hb hab
    exact nailAt_inj v2 hab (by have := List.mem_range'_1.mp hb; omega)
theorem mvL_of {w : List Nat} (hw : ∀ a ∈ w, Ltr a) : ∀ {mv : Mv}, MvOk w mv → MvL mv
  | .turn _, h => hw _ h
  | .change _ _, h => ⟨hw _ h.1, hw _ h.2.1, h.2.2⟩
  | .slide _ _ _, h => ⟨hw _ h.1, hw _ h.2.1, h.2.2.1⟩
theorem lay_n {n : Nat} (h : Ltr n) : PyData.canLay0 (.str ⟨#[n]⟩) = true := by
  have h1 := h.2
  have : n < 1114112 := by omega
  simp [PyData.canLay0, PyData.strOk, this]
theorem lay_t : PyData.canLay0 (.str "turn") = true := by decide +kernel
theorem mv_lay : ∀ {mv : Mv}, MvL mv → (mvD mv).canLay0 = true ∧ (mvD mv).depth ≤ 1 ∧ PyData.eqv (mvD mv) (mvD mv) = true
  | .turn n, h => by
    have h1 := lay_n h
    rw [PyData.canLay0] at h1
    refine ⟨?_, by simp [mvD, PyData.depth, PyData.depthAll], by simp [mvD, PyData.eqv, PyData.eqvAll]⟩
    simp only [mvD, PyData.canLay0, PyData.canLayAll0, lay_t, h1]
    decide +kernel
  | .change n m, h => by
    have h1 := lay_n h.1
    have h2 := lay_n h.2.1
    rw [PyData.canLay0] at h1 h2
    refine ⟨?_, by simp [mvD, PyData.depth, PyData.depthAll], by simp [mvD, PyData.eqv, PyData.eqvAll]⟩
    simp only [mvD, PyData.canLay0, PyData.canLayAll0, h1, h2]
    decide +kernel
  | .slide n m t, h => by
    have h1 := lay_n h.1
    have h2 := lay_n h.2.1
    rw [PyData.canLay0] at h1 h2
    refine ⟨?_, by simp [mvD, PyData.depth, PyData.depthAll], by simp [mvD, PyData.eqv, PyData.eqvAll]⟩
    simp only [mvD, PyData.canLay0, PyData.canLayAll0, h1, h2]
    decide +kernel
theorem mvs_lay : ∀ {ms : List Mv}, (∀ mv ∈ ms, MvL mv) → PyData.canLayAll0 (ms.map mvD) = true ∧ PyData.depthAll (ms.map mvD) ≤ 1 ∧ PyData.eqvAll (ms.map mvD) (ms.map mvD) = true
  | [], _ => by simp [PyData.canLayAll0, PyData.depthAll, PyData.eqvAll]
  | mv :: ms, h => by
    obtain ⟨a1, a2, a3⟩ := mv_lay (h mv (List.mem_cons_self ..))
    obtain ⟨b1, b2, b3⟩ := mvs_lay (ms := ms) fun x hx => h x (List.mem_cons_of_mem _ hx)
    refine ⟨by simp [PyData.canLayAll0, a1, b1], ?_, by simp [PyData.eqvAll, a3, b3]⟩
    simp only [List.map_cons, PyData.depthAll]
    omega
theorem dEq_mv {ms : List Mv} (h : ∀ mv ∈ ms, MvL mv) : dEq (.list (ms.map mvD)) (.list (ms.map mvD)) = some true := by
  obtain ⟨a1, a2, a3⟩ := mvs_lay h
  have s : SeqAt.shaped (.list (ms.map mvD)) = true := by
    unfold SeqAt.shaped
    simp only [PyData.canLay0, PyData.depth, a1, Bool.true_and]
    exact decide_eq_true (by omega)
  have e : dEq (.list (ms.map mvD)) (.list (ms.map mvD)) = (if SeqAt.shaped (.list (ms.map mvD)) && SeqAt.shaped (.list (ms.map mvD)) then some (PyData.eqv (.list (ms.map mvD)) (.list (ms.map mvD))) else none) := rfl
  rw [e, s]
  simp only [PyData.eqv, a3, Bool.and_self, if_true]
theorem st_lp_y (x0 x1 x2 x3 a x7 x8 x9 x10 : Sl) (r R : List Pc) (ms : List Mv) (mv : Mv) (lb : ms.length < 1000000) (ef : fn_law_fits [.list (r.map pcD), .list [mvD mv]] = some (.sh (.bool true))) (e : fn_law_one_move [.list (r.map pcD), mvD mv] = some (.ow (R.map pcD))) : (t_law_L0 (mvD mv) [x0, x1, x2, x3, .ow (r.map pcD), .ow (ms.map mvD), a, x7, x8, x9, x10]).bind g_law_L0 = some ([x0, x1, x2, x3, .ow (R.map pcD), .ow ((ms ++ [mv]).map mvD), .sh (mvD mv), x7, x8, x9, x10], .nx) := by
  have mm : (ms ++ [mv]).map mvD = ms.map mvD ++ [mvD mv] := by simp
  have fm : flat (mvD mv) = true := by cases mv <;> rfl
  rw [mm]
  simp only [t_law_L0, gNameP, List.length_cons, List.length_nil, Nat.zero_add, Nat.reduceAdd, Nat.reduceLT, List.set_cons_succ, List.set_cons_zero, if_true, g_law_L0, Option.bind_some, pIfS, pTru, pCall, aCons, pVar, List.getElem?_cons_succ, List.getElem?_cons_zero, Sl.isBr, Bool.false_and, Bool.false_eq_true, pLst, dCons, frz, dNil, Option.map_some, aNil, if_false, Nat.reduceLeDiff, lookA, look, Sl.val, ef, dTru, pSeq, pExpr, pAppend, pSet, PL.settle, frzAll, pNext, List.length_map, lb, e]
theorem st_lp_n (x0 x1 x2 x3 a x7 x8 x9 x10 : Sl) (r : List Pc) (M : Sl) (mv : Mv) (ef : fn_law_fits [.list (r.map pcD), .list [mvD mv]] = some (.sh (.bool false))) : (t_law_L0 (mvD mv) [x0, x1, x2, x3, .ow (r.map pcD), M, a, x7, x8, x9, x10]).bind g_law_L0 = some ([x0, x1, x2, x3, .ow (r.map pcD), M, .sh (mvD mv), x7, x8, x9, x10], .nx) := by
  simp only [t_law_L0, gNameP, List.length_cons, List.length_nil, Nat.zero_add, Nat.reduceAdd, Nat.reduceLT, List.set_cons_succ, List.set_cons_zero, if_true, g_law_L0, Option.bind_some, pIfS, pTru, pCall, aCons, pVar, List.getElem?_cons_succ, List.getElem?_cons_zero, Sl.isBr, Bool.false_and, Bool.false_eq_true, pLst, dCons, frz, dNil, Option.map_some, aNil, if_false, Nat.reduceLeDiff, lookA, look, Sl.val, ef, dTru, pSeq, pExpr, pAppend, pSet, PL.settle, frzAll, pNext]
theorem pl_law (x0 x1 x2 x3 x7 x8 x9 x10 : Sl) : ∀ (todo ms : List Mv) (r : List Pc) (a : Sl), NailsOk r → r.length ≤ 300 → (∀ mv ∈ todo, MvL mv) → ms.length + todo.length ≤ 1000 → ∃ more a', pLoop t_law_L0 g_law_L0 (todo.map mvD) [x0, x1, x2, x3, .ow (r.map pcD), .ow (ms.map mvD), a, x7, x8, x9, x10] = some ([x0, x1, x2, x3, .ow ((fld more r).map pcD), .ow ((ms ++ more).map mvD), a', x7, x8, x9, x10], .nx) ∧ (∀ mv ∈ more, MvL mv) ∧ Fits r more ∧ more.length ≤ todo.length
  | [], ms, r, a, _, _, _, _ => ⟨[], a, by simp [pLoop, fld], (fun _ h => by cases h), trivial, Nat.le_refl _⟩
  | mv :: todo, ms, r, a, hn, hl, hm, hb => by
    rw [List.length_cons] at hb
    have h1 := hm mv (List.mem_cons_self ..)
    have h2 : ∀ x ∈ todo, MvL x := fun x hx => hm x (List.mem_cons_of_mem _ hx)
    have ef := pv_fits r [mv] hn hl (fun x hx => by rw [List.mem_singleton.mp hx]; exact h1)
    rw [List.map_cons, List.map_nil] at ef
    by_cases hw : Fit1 r mv
    · rw [show fitsB r [mv] = true by simp [fitsB, hw]] at ef
      have e1 := st_lp_y x0 x1 x2 x3 a x7 x8 x9 x10 r _ ms mv (by omega) ef (pv_one_move r mv (by have := fit_len hw hl; omega) (img_nails h1 hn))
      obtain ⟨more, a', e2, k1, k2, k3⟩ := pl_law x0 x1 x2 x3 x7 x8 x9 x10 todo (ms ++ [mv]) _ (.sh (mvD mv)) (nails_short (img_nails h1 hn)) (fit_len' hw hl) h2 (by rw [List.length_append, List.length_singleton]; omega)
      refine ⟨mv :: more, a', ?_, ?_, ⟨hw, k2⟩, by simp; omega⟩
      · rw [List.map_cons, pLoop, e1, show ms ++ mv :: more = ms ++ [mv] ++ more by simp]
        exact e2
      · intro x hx
        rcases List.mem_cons.mp hx with z | z
        · rw [z]; exact h1
        · exact k1 x z
    · rw [show fitsB r [mv] = false by simp [fitsB, hw]] at ef
      have e1 := st_lp_n x0 x1 x2 x3 a x7 x8 x9 x10 r (.ow (ms.map mvD)) mv ef
      obtain ⟨more, a', e2, k1, k2, k3⟩ := pl_law x0 x1 x2 x3 x7 x8 x9 x10 todo ms r (.sh (mvD mv)) hn hl h2 (by omega)
      refine ⟨more, a', ?_, k1, k2, by simp; omega⟩
      rw [List.map_cons, pLoop, e1]
      exact e2
theorem pc_tup : ∀ (ms : List Mv) (a : Sl), cLoop t_law_C1 tYesP e_law_C1 (ms.map mvD) [a] = some (ms.map fun _ => .bool true)
  | [], a => rfl
  | mv :: ms, a => by
    have e : t_law_C1 (mvD mv) [a] = some [.sh (mvD mv)] := rfl
    have e2 : e_law_C1 [.sh (mvD mv)] = some (.sh (.bool true), [.sh (mvD mv)]) := by cases mv <;> rfl
    rw [List.map_cons, List.map_cons]
    exact cl_cons e e2 (pc_tup ms _)
theorem all_tt : ∀ ms : List Mv, boolsOf (ms.map fun _ => PyData.bool true) = some (ms.map fun _ => true) ∧ flatA (ms.map fun _ => PyData.bool true) = true ∧ (ms.map fun _ => true).all id = true
  | [] => ⟨rfl, rfl, rfl⟩
  | m :: ms => by
    obtain ⟨h1, h2, h3⟩ := all_tt ms
    exact ⟨by simp [boolsOf, h1], by simp [flatA, flat, h2], by simp⟩
noncomputable def g_rest : PSv := (pSeq (pSet 7 (pLstOf (pVar 5)))
  (pSeq (pSet 8 (pCall fn_back_moves (aCons false (pVar 7) aNil)))
  (pSeq (pIfS (tOrP (tNotP (pTru (pUn (dIsi .list) (pVar 8)))) (tOrP (isB (pBin pNe false (pVar 8) (pCall fn_law_back_due (aCons false (pVar 5) aNil)))) (isB (pBin pNe false (pVar 7) (pVar 5)))))
  (pRet (pC (.bool false)))
  pNext)
  (pSeq (pIfS (tOrP (tNotP (pTru (pCaS dAll (aCons false (pComp [none] (iKeep (pVar 8)) t_law_C1 tYesP e_law_C1) aNil)))) (isB (pBin pNe false (pCall fn_back_moves (aCons false (pLstOf (pVar 8)) aNil)) (pVar 5))))
  (pRet (pC (.bool false)))
  pNext)
  (pSeq (pExpr (pAppend 8 (pTup (dCons (pC (.str "turn")) (dCons (pC (.str "a")) dNil)))))
  (pSeq (pIfS (isB (pBin pNe false (pVar 7) (pVar 5)))
  (pRet (pC (.bool false)))
  pNext)
  (pSeq (pSet 8 (pCall fn_back_moves (aCons false (pVar 7) aNil)))
  (pSeq (pIfS (isB (pBin pNe false (pVar 8) (pCall fn_law_back_due (aCons false (pVar 5) aNil))))
  (pRet (pC (.bool false)))
  pNext)
  (pSeq (pSet 9 (pCall fn_law_short (aCons false (pVar 3) aNil)))
  (pSeq (pIfS (tAndP (pTru (pCall fn_law_fits (aCons false (pVar 4) (aCons false (pVar 8) aNil)))) (isB (pBin pNe false (pCall fn_moved (aCons false (pCall fn_moved (aCons false (pLstOf (pVar 3)) (aCons false (pVar 5) aNil))) (aCons false (pVar 8) aNil))) (pVar 9))))
  (pRet (pC (.bool false)))
  pNext)
  (pSeq (pIfS (tNotP (pTru (pCall fn_law_fits (aCons false (pVar 9) (aCons false (pVar 8) aNil)))))
  (pRet (pC (.bool true)))
  pNext)
  (pSeq (pSet 10 (pCall fn_moved (aCons false (pLstOf (pVar 3)) (aCons false (pVar 8) aNil))))
  (pRet (pOrV (pUn dNot (pCall fn_law_fits (aCons false (pVar 10) (aCons false (pVar 5) aNil)))) (pBin pEq false (pCall fn_moved (aCons false (pVar 10) (aCons false (pVar 5) aNil))) (pVar 9))))))))))))))))
noncomputable def g_end : PSv := (pSeq (pSet 9 (pCall fn_law_short (aCons false (pVar 3) aNil)))
  (pSeq (pIfS (tAndP (pTru (pCall fn_law_fits (aCons false (pVar 4) (aCons false (pVar 8) aNil)))) (isB (pBin pNe false (pCall fn_moved (aCons false (pCall fn_moved (aCons false (pLstOf (pVar 3)) (aCons false (pVar 5) aNil))) (aCons false (pVar 8) aNil))) (pVar 9))))
  (pRet (pC (.bool false)))
  pNext)
  (pSeq (pIfS (tNotP (pTru (pCall fn_law_fits (aCons false (pVar 9) (aCons false (pVar 8) aNil)))))
  (pRet (pC (.bool true)))
  pNext)
  (pSeq (pSet 10 (pCall fn_moved (aCons false (pLstOf (pVar 3)) (aCons false (pVar 8) aNil))))
  (pRet (pOrV (pUn dNot (pCall fn_law_fits (aCons false (pVar 10) (aCons false (pVar 5) aNil)))) (pBin pEq false (pCall fn_moved (aCons false (pVar 10) (aCons false (pVar 5) aNil))) (pVar 9))))))))
theorem st_rest1 (x0 x1 x2 a : Sl) (C R : List PyData) (ms bs : List Mv) (lm : ms.length ≤ 1000) (lb : bs.length ≤ 1000) (res : Option (List Sl × Fl)) (eb : fn_back_moves [.list (ms.map mvD)] = some (.ow (bs.map mvD))) (ed : fn_law_back_due [.list (ms.map mvD)] = some (.ow (bs.map mvD))) (eb2 : fn_back_moves [.list (bs.map mvD)] = some (.ow (ms.map mvD))) (q1 : dEq (.list (bs.map mvD)) (.list (bs.map mvD)) = some true) (q2 : dEq (.list (ms.map mvD)) (.list (ms.map mvD)) = some true)
    (k : g_end [x0, x1, x2, .ow C, .ow R, .ow (ms.map mvD), a, .ow (ms.map mvD), .ow (bs.map mvD), .no, .no] = res) : g_rest [x0, x1, x2, .ow C, .ow R, .ow (ms.map mvD), a, .no, .no, .no, .no] = res := by
  have f1 := flat_mv ms
  have f2 := flat_mv bs
  have k1 := pc_tup bs .no
  obtain ⟨k2, k3, k4⟩ := all_tt bs
  have l1 : ms.length ≤ 1000000 := by omega
  have l2 : bs.length ≤ 1000000 := by omega
  have l3 : bs.length < 1000000 := by omega
  have gl : g_rest = (pSeq (pSet 7 (pLstOf (pVar 5)))
  (pSeq (pSet 8 (pCall fn_back_moves (aCons false (pVar 7) aNil)))
  (pSeq (pIfS (tOrP (tNotP (pTru (pUn (dIsi .list) (pVar 8)))) (tOrP (isB (pBin pNe false (pVar 8) (pCall fn_law_back_due (aCons false (pVar 5) aNil)))) (isB (pBin pNe false (pVar 7) (pVar 5)))))
  (pRet (pC (.bool false)))
  pNext)
  (pSeq (pIfS (tOrP (tNotP (pTru (pCaS dAll (aCons false (pComp [none] (iKeep (pVar 8)) t_law_C1 tYesP e_law_C1) aNil)))) (isB (pBin pNe false (pCall fn_back_moves (aCons false (pLstOf (pVar 8)) aNil)) (pVar 5))))
  (pRet (pC (.bool false)))
  pNext)
  (pSeq (pExpr (pAppend 8 (pTup (dCons (pC (.str "turn")) (dCons (pC (.str "a")) dNil)))))
  (pSeq (pIfS (isB (pBin pNe false (pVar 7) (pVar 5)))
  (pRet (pC (.bool false)))
  pNext)
  (pSeq (pSet 8 (pCall fn_back_moves (aCons false (pVar 7) aNil)))
  (pSeq (pIfS (isB (pBin pNe false (pVar 8) (pCall fn_law_back_due (aCons false (pVar 5) aNil))))
  (pRet (pC (.bool false)))
  pNext)
  g_end)))))))) := rfl
  rw [gl]
  simp only [pSeq, pSet, pLstOf, pVar, List.getElem?_cons_succ, List.getElem?_cons_zero, look, Sl.val, hot, hot1, Option.bind_some, Option.any_some, Bool.not_false, f1, Bool.or_true, if_true, PL.settle, frz, frzAll, List.length_cons, List.length_nil, Nat.zero_add, Nat.reduceAdd, Nat.reduceLT, List.set_cons_succ, List.set_cons_zero, pCall, aCons, Sl.isBr, Bool.false_and, Bool.false_eq_true, aNil, Option.map_some, if_false, pIfS, tOrP, tNotP, pTru, pUn, dIsi, Ty.is, tyD, isB, pBin, pNe, sc2, pRet, pC, pNext, pCaS, pComp, iKeep, slotsE, List.map_cons, slotE, List.map_nil, dAll, pExpr, pAppend, pTup, dCons, dNil, Nat.reduceLeDiff, lookA, eb, dTru, Bool.not_true, ed, q1, q2, k1, k3, List.length_map, l2, decide_true, Bool.and_true, k2, k4, f2, eb2, l3, k]
theorem st_c1 (x0 x1 x2 a x10 : Sl) (C R M B D : List PyData) (f1 : Bool) (lc : C.length ≤ 1000000) (ef : fn_law_fits [.list R, .list B] = some (.sh (.bool f1))) (em : f1 = true → ∃ s1 L1 s2, (s1 = .ow L1 ∨ s1 = .br (.list L1)) ∧ fn_moved [.list C, .list M] = some s1 ∧ (s2 = .ow D ∨ s2 = .br (.list D)) ∧ fn_moved [.list L1, .list B] = some s2) (q : dEq (.list D) (.list D) = some true) :
    (tAndP (pTru (pCall fn_law_fits (aCons false (pVar 4) (aCons false (pVar 8) aNil)))) (isB (pBin pNe false (pCall fn_moved (aCons false (pCall fn_moved (aCons false (pLstOf (pVar 3)) (aCons false (pVar 5) aNil))) (aCons false (pVar 8) aNil))) (pVar 9)))) [x0, x1, x2, .ow C, .ow R, .ow M, a, .ow M, .ow B, .ow D, x10] = some (false, [x0, x1, x2, .ow C, .ow R, .ow M, a, .ow M, .ow B, .ow D, x10]) := by
  cases f1 with
  | false => simp only [tAndP, pTru, pCall, aCons, pVar, List.getElem?_cons_succ, List.getElem?_cons_zero, Sl.isBr, Bool.false_and, Bool.false_eq_true, aNil, Option.map_some, if_false, Option.bind_some, lookA, look, Sl.val, ef, dTru, isB, pBin, pLstOf, hot, hot1, pNe, sc2, Option.any_some, Bool.not_false, Bool.true_or, if_true]
  | true =>
    obtain ⟨s1, L1, s2, h1, e1, h2, e2⟩ := em rfl
    rcases h1 with rfl | rfl <;> rcases h2 with rfl | rfl
    · simp only [tAndP, pTru, pCall, aCons, pVar, List.getElem?_cons_succ, List.getElem?_cons_zero, Sl.isBr, Bool.false_and, Bool.false_eq_true, aNil, Option.map_some, if_false, Option.bind_some, lookA, look, Sl.val, ef, dTru, isB, pBin, pLstOf, hot, hot1, pNe, sc2, Option.any_some, Bool.not_false, Bool.true_or, if_true, e1, e2, q, Bool.not_true]
    · simp only [tAndP, pTru, pCall, aCons, pVar, List.getElem?_cons_succ, List.getElem?_cons_zero, Sl.isBr, Bool.false_and, Bool.false_eq_true, aNil, Option.map_some, if_false, Option.bind_some, lookA, look, Sl.val, ef, dTru, isB, pBin, pLstOf, hot, hot1, pNe, sc2, Option.any_some, Bool.not_false, Bool.true_or, if_true, e1, e2, q, Bool.not_true]
    · simp only [tAndP, pTru, pCall, aCons, pVar, List.getElem?_cons_succ, List.getElem?_cons_zero, Sl.isBr, Bool.false_and, Bool.false_eq_true, aNil, Option.map_some, if_false, Option.bind_some, lookA, look, Sl.val, ef, dTru, isB, pBin, pLstOf, hot, hot1, pNe, sc2, Option.any_some, Bool.not_false, Bool.true_or, if_true, e1, e2, q, Bool.not_true]
    · simp only [tAndP, pTru, pCall, aCons, pVar, List.getElem?_cons_succ, List.getElem?_cons_zero, Sl.isBr, Bool.false_and, Bool.false_eq_true, aNil, Option.map_some, if_false, Option.bind_some, lookA, look, Sl.val, ef, dTru, isB, pBin, pLstOf, hot, hot1, pNe, sc2, Option.any_some, Bool.not_false, Bool.true_or, if_true, e1, e2, q, Bool.not_true]
noncomputable def g_fin : PSv := (pSeq (pSet 10 (pCall fn_moved (aCons false (pLstOf (pVar 3)) (aCons false (pVar 8) aNil))))
  (pRet (pOrV (pUn dNot (pCall fn_law_fits (aCons false (pVar 10) (aCons false (pVar 5) aNil)))) (pBin pEq false (pCall fn_moved (aCons false (pVar 10) (aCons false (pVar 5) aNil))) (pVar 9)))))
theorem st_fin (x0 x1 X2 a : Sl) (y : Sl) (C R M B D L : List PyData) (lc : C.length ≤ 1000000) (hy : (y = .ow L ∧ True) ∨ y = .br (.list L)) (e0 : fn_moved [.list C, .list B] = some y) (f3 : Bool) (ef : fn_law_fits [.list L, .list M] = some (.sh (.bool f3))) (em : f3 = true → ∃ s2, (s2 = .ow D ∨ s2 = .br (.list D)) ∧ fn_moved [.list L, .list M] = some s2) (q : dEq (.list D) (.list D) = some true) :
    ∃ E, g_fin [x0, x1, X2, .ow C, .ow R, .ow M, a, .ow M, .ow B, .ow D, .no] = some (E, .rt (.sh (.bool true))) := by
  rcases hy with ⟨rfl, _⟩ | rfl <;> cases f3 with
  | false => exact ⟨_, by simp only [g_fin, pSeq, pSet, pCall, aCons, pLstOf, pVar, List.getElem?_cons_succ, List.getElem?_cons_zero, look, Sl.val, hot, hot1, Option.bind_some, Option.any_some, Bool.not_false, Bool.true_or, if_true, Sl.isBr, Bool.false_and, Bool.false_eq_true, aNil, Option.map_some, if_false, lookA, e0, PL.settle, frz, frzAll, List.length_cons, List.length_nil, Nat.zero_add, Nat.reduceAdd, Nat.reduceLT, List.set_cons_succ, List.set_cons_zero, pRet, pOrV, pUn, dNot, pBin, pEq, sc2, ef, flat, List.map_cons, frzSl, List.map_nil]; rfl⟩
  | true =>
    obtain ⟨s2, h2, e2⟩ := em rfl
    rcases h2 with rfl | rfl
    · exact ⟨_, by simp only [g_fin, pSeq, pSet, pCall, aCons, pLstOf, pVar, List.getElem?_cons_succ, List.getElem?_cons_zero, look, Sl.val, hot, hot1, Option.bind_some, Option.any_some, Bool.not_false, Bool.true_or, if_true, Sl.isBr, Bool.false_and, Bool.false_eq_true, aNil, Option.map_some, if_false, lookA, e0, PL.settle, frz, frzAll, List.length_cons, List.length_nil, Nat.zero_add, Nat.reduceAdd, Nat.reduceLT, List.set_cons_succ, List.set_cons_zero, pRet, pOrV, pUn, dNot, pBin, pEq, sc2, ef, Bool.not_true, e2, q, flat, List.map_cons, frzSl, List.map_nil]; rfl⟩
    · exact ⟨_, by simp only [g_fin, pSeq, pSet, pCall, aCons, pLstOf, pVar, List.getElem?_cons_succ, List.getElem?_cons_zero, look, Sl.val, hot, hot1, Option.bind_some, Option.any_some, Bool.not_false, Bool.true_or, if_true, Sl.isBr, Bool.false_and, Bool.false_eq_true, aNil, Option.map_some, if_false, lookA, e0, PL.settle, frz, frzAll, List.length_cons, List.length_nil, Nat.zero_add, Nat.reduceAdd, Nat.reduceLT, List.set_cons_succ, List.set_cons_zero, pRet, pOrV, pUn, dNot, pBin, pEq, sc2, ef, Bool.not_true, e2, q, flat, List.map_cons, frzSl, List.map_nil]; rfl⟩
theorem st_end (x0 x1 X2 a : Sl) (C R M B D : List PyData) (f1 f2 : Bool) (lc : C.length ≤ 1000000) (es : fn_law_short [.list C] = some (.ow D)) (ef : fn_law_fits [.list R, .list B] = some (.sh (.bool f1))) (em : f1 = true → ∃ s1 L1 s2, (s1 = .ow L1 ∨ s1 = .br (.list L1)) ∧ fn_moved [.list C, .list M] = some s1 ∧ (s2 = .ow D ∨ s2 = .br (.list D)) ∧ fn_moved [.list L1, .list B] = some s2) (q : dEq (.list D) (.list D) = some true)
    (ef2 : fn_law_fits [.list D, .list B] = some (.sh (.bool f2))) (k : f2 = true → ∃ E, g_fin [x0, x1, X2, .ow C, .ow R, .ow M, a, .ow M, .ow B, .ow D, .no] = some (E, .rt (.sh (.bool true)))) :
    ∃ E, g_end [x0, x1, X2, .ow C, .ow R, .ow M, a, .ow M, .ow B, .no, .no] = some (E, .rt (.sh (.bool true))) := by
  have s9 : pSet 9 (pCall fn_law_short (aCons false (pVar 3) aNil)) [x0, x1, X2, .ow C, .ow R, .ow M, a, .ow M, .ow B, .no, .no] = some ([x0, x1, X2, .ow C, .ow R, .ow M, a, .ow M, .ow B, .ow D, .no], .nx) := by
    simp only [pSet, pCall, aCons, pVar, List.getElem?_cons_succ, List.getElem?_cons_zero, Sl.isBr, Bool.false_and, Bool.false_eq_true, aNil, Option.map_some, if_false, Option.bind_some, lookA, look, Sl.val, es, PL.settle, frz, frzAll, List.length_cons, List.length_nil, Nat.zero_add, Nat.reduceAdd, Nat.reduceLT, List.set_cons_succ, List.set_cons_zero, if_true]
  have c1 := st_c1 x0 x1 X2 a .no C R M B D f1 lc ef em q
  have gl : g_end = (pSeq (pSet 9 (pCall fn_law_short (aCons false (pVar 3) aNil)))
  (pSeq (pIfS (tAndP (pTru (pCall fn_law_fits (aCons false (pVar 4) (aCons false (pVar 8) aNil)))) (isB (pBin pNe false (pCall fn_moved (aCons false (pCall fn_moved (aCons false (pLstOf (pVar 3)) (aCons false (pVar 5) aNil))) (aCons false (pVar 8) aNil))) (pVar 9))))
  (pRet (pC (.bool false)))
  pNext)
  (pSeq (pIfS (tNotP (pTru (pCall fn_law_fits (aCons false (pVar 9) (aCons false (pVar 8) aNil)))))
  (pRet (pC (.bool true)))
  pNext)
  g_fin))) := rfl
  have c2 : (tNotP (pTru (pCall fn_law_fits (aCons false (pVar 9) (aCons false (pVar 8) aNil))))) [x0, x1, X2, .ow C, .ow R, .ow M, a, .ow M, .ow B, .ow D, .no] = some (!f2, [x0, x1, X2, .ow C, .ow R, .ow M, a, .ow M, .ow B, .ow D, .no]) := by
    simp only [tNotP, pTru, pCall, aCons, pVar, List.getElem?_cons_succ, List.getElem?_cons_zero, Sl.isBr, Bool.false_and, Bool.false_eq_true, aNil, Option.map_some, if_false, Option.bind_some, lookA, look, Sl.val, ef2, dTru]
  rw [gl, seq_nx s9, seq_nx (if_no c1 rfl)]
  cases f2 with
  | false => exact ⟨_, by simp only [pSeq, if_yes c2 rfl]; rfl⟩
  | true =>
    obtain ⟨E, e⟩ := k rfl
    exact ⟨E, by rw [seq_nx (if_no c2 rfl)]; exact e⟩
noncomputable abbrev En (x0 x1 x2 x3 x4 x5 x6 : Sl) : List Sl := [x0, x1, x2, x3, x4, x5, x6, .no, .no, .no, .no]
theorem hd_1 (S : PyData) (c1 : Int) (a1 : fn_law_at [S, .int 1] = some (.sh (.int c1))) (d4 : okDiv 4 = true) : pSet 1 (pBin pAdd false (pC (.int 2)) (pBin pMod false (pCall fn_law_at (aCons false (pVar 0) (aCons false (pC (.int 1)) aNil))) (pC (.int 4)))) (En (.sh S) .no .no .no .no .no .no) = some (En (.sh S) (.sh (.int (2 + c1 % 4))) .no .no .no .no .no, .nx) := by
  simp only [pSet, pBin, pC, Sl.isBr, Bool.false_and, Bool.false_eq_true, pCall, aCons, pVar, aNil, Option.map_some, if_false, Option.bind_some, pMod, sc2, look, Sl.val, iOp, pAdd, hot, hot1, List.getElem?_cons_zero, lookA, a1, Int.reduceLT, decide_true, if_true, Bool.not_false, Bool.true_or, Bool.and_true, PL.settle, frz, frzAll, List.length_cons, List.length_nil, Nat.zero_add, Nat.reduceAdd, Nat.reduceLT, List.set_cons_succ, List.set_cons_zero]
theorem hd_2 (S : PyData) (c1 many m0 : Int) (a1 : fn_law_at [S, .int 1] = some (.sh (.int c1))) (hm : (c1 / 24 % 8 = 6 ∧ many = 26) ∨ (c1 / 24 % 8 ≠ 6 ∧ many = m0)) (d1 : okDiv 24 = true) (d2 : okDiv 8 = true) : pIfS (isB (pBin pEq false (pBin pMod false (pBin pFdiv false (pCall fn_law_at (aCons false (pVar 0) (aCons false (pC (.int 1)) aNil))) (pC (.int 24))) (pC (.int 8))) (pC (.int 6))))
  (pSet 1 (pC (.int 26)))
  pNext (En (.sh S) (.sh (.int m0)) .no .no .no .no .no) = some (En (.sh S) (.sh (.int many)) .no .no .no .no .no, .nx) := by
  obtain ⟨u, hu⟩ : ∃ u, c1 / 24 % 8 = u := ⟨_, rfl⟩
  rw [hu] at hm
  rcases hm with ⟨h, rfl⟩ | ⟨h, rfl⟩
  · simp only [pIfS, isB, pBin, pCall, aCons, pVar, List.getElem?_cons_zero, Sl.isBr, Bool.false_and, Bool.false_eq_true, pC, aNil, Option.map_some, if_false, Option.bind_some, lookA, look, Sl.val, a1, pFdiv, sc2, iOp, d1, if_true, pMod, Int.reduceLT, decide_true, hu, h, pEq, dEq_int, pSet, PL.settle, frz, frzAll, pNext, List.length_cons, List.length_nil, Nat.zero_add, Nat.reduceAdd, Nat.reduceLT, List.set_cons_succ, List.set_cons_zero]
  · simp only [pIfS, isB, pBin, pCall, aCons, pVar, List.getElem?_cons_zero, Sl.isBr, Bool.false_and, Bool.false_eq_true, pC, aNil, Option.map_some, if_false, Option.bind_some, lookA, look, Sl.val, a1, pFdiv, sc2, iOp, d1, if_true, pMod, Int.reduceLT, decide_true, hu, pEq, dEq_int, h, decide_false, pSet, PL.settle, frz, frzAll, pNext, List.length_cons, List.length_nil, Nat.zero_add, Nat.reduceAdd, Nat.reduceLT, List.set_cons_succ, List.set_cons_zero]
theorem hd_3 (S : PyData) (z many : Int) (W : List PyData) (a0 : fn_law_at [S, .int 0] = some (.sh (.int z))) (ew : fn_law_nails [.int z, .int many] = some (.ow W)) : pSet 2 (pCall fn_law_nails (aCons false (pCall fn_law_at (aCons false (pVar 0) (aCons false (pC (.int 0)) aNil))) (aCons false (pVar 1) aNil))) (En (.sh S) (.sh (.int many)) .no .no .no .no .no) = some (En (.sh S) (.sh (.int many)) (.ow W) .no .no .no .no, .nx) := by
  simp only [pSet, pCall, aCons, pVar, List.getElem?_cons_zero, Sl.isBr, Bool.false_and, Bool.false_eq_true, pC, aNil, Option.map_some, if_false, Option.bind_some, lookA, look, Sl.val, a0, List.getElem?_cons_succ, ew, PL.settle, frz, frzAll, List.length_cons, List.length_nil, Nat.zero_add, Nat.reduceAdd, Nat.reduceLT, List.set_cons_succ, List.set_cons_zero, if_true]
theorem hd_4 (S : PyData) (x1 : Sl) (W C : List PyData) (ec : fn_law_cord [S, .int 2, .list W, .int 12] = some (.ow C)) : pSet 3 (pCall fn_law_cord (aCons false (pVar 0) (aCons false (pC (.int 2)) (aCons false (pVar 2) (aCons false (pC (.int 12)) aNil))))) (En (.sh S) x1 (.ow W) .no .no .no .no) = some (En (.sh S) x1 (.ow W) (.ow C) .no .no .no, .nx) := by
  simp only [pSet, pCall, aCons, pVar, List.getElem?_cons_zero, Sl.isBr, Bool.false_and, Bool.false_eq_true, pC, aNil, Option.map_some, if_false, Option.bind_some, List.getElem?_cons_succ, lookA, look, Sl.val, ec, PL.settle, frz, frzAll, List.length_cons, List.length_nil, Nat.zero_add, Nat.reduceAdd, Nat.reduceLT, List.set_cons_succ, List.set_cons_zero, if_true]
theorem hd_5 (x0 x1 x2 : Sl) (C D : List PyData) (es : fn_law_short [.list C] = some (.ow D)) : pSet 4 (pCall fn_law_short (aCons false (pVar 3) aNil)) (En x0 x1 x2 (.ow C) .no .no .no) = some (En x0 x1 x2 (.ow C) (.ow D) .no .no, .nx) := by
  simp only [pSet, pCall, aCons, pVar, List.getElem?_cons_succ, List.getElem?_cons_zero, Sl.isBr, Bool.false_and, Bool.false_eq_true, aNil, Option.map_some, if_false, Option.bind_some, lookA, look, Sl.val, es, PL.settle, frz, frzAll, List.length_cons, List.length_nil, Nat.zero_add, Nat.reduceAdd, Nat.reduceLT, List.set_cons_succ, List.set_cons_zero, if_true]
theorem hd_6 (x0 x1 x2 x3 x4 : Sl) : pSet 5 (pLst dNil) (En x0 x1 x2 x3 x4 .no .no) = some (En x0 x1 x2 x3 x4 (.ow []) .no, .nx) := rfl
theorem hd_7 (S : PyData) (x1 x3 x4 : Sl) (W V : List PyData) (c1 T : Int) (a1 : fn_law_at [S, .int 1] = some (.sh (.int c1))) (hT : c1 / 4 % 6 = T) (d4 : okDiv 4 = true) (d6 : okDiv 6 = true) (emv : fn_law_moves [S, .int 11, .list W, .int T] = some (.ow V)) : iAny (pCall fn_law_moves (aCons false (pVar 0) (aCons false (pC (.int 11)) (aCons false (pVar 2) (aCons false (pBin pMod false (pBin pFdiv false (pCall fn_law_at (aCons false (pVar 0) (aCons false (pC (.int 1)) aNil))) (pC (.int 4))) (pC (.int 6))) aNil))))) (En (.sh S) x1 (.ow W) x3 x4 (.ow []) .no) = some (V, En (.sh S) x1 (.ow W) x3 x4 (.ow []) .no) := by
  simp only [iAny, pCall, aCons, pVar, List.getElem?_cons_zero, Sl.isBr, Bool.false_and, Bool.false_eq_true, pC, pBin, aNil, Option.map_some, if_false, Option.bind_some, pFdiv, sc2, look, Sl.val, iOp, pMod, List.getElem?_cons_succ, lookA, a1, d4, if_true, Int.reduceLT, decide_true, hT, emv, frz]
theorem for_by {it : PDv} {tg : PGv} {g : PSv} {E E1 E2 : List Sl} {V : List PyData} (h1 : it E = some (V, E1)) (h2 : pLoop tg g V E1 = some (E2, .nx)) : pFor it tg g E = some (E2, .nx) := by
  unfold pFor
  rw [h1, Option.bind_some]
  simp only [h2, Option.bind_some]
theorem st_head (ns : List Int) (w : List Nat) (c : List Pc) (mv0 ms : List Mv) (many c1 T : Int) (a : Sl) (R : List PyData) (E : List Sl) (a1 : fn_law_at [.list (ns.map .int), .int 1] = some (.sh (.int c1))) (hm : (c1 / 24 % 8 = 6 ∧ many = 26) ∨ (c1 / 24 % 8 ≠ 6 ∧ many = 2 + c1 % 4)) (d1 : okDiv 24 = true ∧ okDiv 8 = true ∧ okDiv 4 = true ∧ okDiv 6 = true)
    (ew : ∃ z, fn_law_at [.list (ns.map .int), .int 0] = some (.sh (.int z)) ∧ fn_law_nails [.int z, .int many] = some (.ow (w.map stD))) (ec : fn_law_cord [.list (ns.map .int), .int 2, .list (w.map stD), .int 12] = some (.ow (c.map pcD))) (es : fn_law_short [.list (c.map pcD)] = some (.ow ((NH.short c).map pcD))) (hT : c1 / 4 % 6 = T) (emv : fn_law_moves [.list (ns.map .int), .int 11, .list (w.map stD), .int T] = some (.ow (mv0.map mvD)))
    (lp : pLoop t_law_L0 g_law_L0 (mv0.map mvD) [.sh (.list (ns.map .int)), .sh (.int many), .ow (w.map stD), .ow (c.map pcD), .ow ((NH.short c).map pcD), .ow [], .no, .no, .no, .no, .no] = some ([.sh (.list (ns.map .int)), .sh (.int many), .ow (w.map stD), .ow (c.map pcD), .ow R, .ow (ms.map mvD), a, .no, .no, .no, .no], .nx))
    (k : g_rest [.sh (.list (ns.map .int)), .sh (.int many), .ow (w.map stD), .ow (c.map pcD), .ow R, .ow (ms.map mvD), a, .no, .no, .no, .no] = some (E, .rt (.sh (.bool true)))) : fn_law [.list (ns.map .int)] = some (.sh (.bool true)) := by
  have gl : g_law = (pSeq (pSet 1 (pBin pAdd false (pC (.int 2)) (pBin pMod false (pCall fn_law_at (aCons false (pVar 0) (aCons false (pC (.int 1)) aNil))) (pC (.int 4)))))
  (pSeq (pIfS (isB (pBin pEq false (pBin pMod false (pBin pFdiv false (pCall fn_law_at (aCons false (pVar 0) (aCons false (pC (.int 1)) aNil))) (pC (.int 24))) (pC (.int 8))) (pC (.int 6))))
  (pSet 1 (pC (.int 26)))
  pNext)
  (pSeq (pSet 2 (pCall fn_law_nails (aCons false (pCall fn_law_at (aCons false (pVar 0) (aCons false (pC (.int 0)) aNil))) (aCons false (pVar 1) aNil))))
  (pSeq (pSet 3 (pCall fn_law_cord (aCons false (pVar 0) (aCons false (pC (.int 2)) (aCons false (pVar 2) (aCons false (pC (.int 12)) aNil))))))
  (pSeq (pSet 4 (pCall fn_law_short (aCons false (pVar 3) aNil)))
  (pSeq (pSet 5 (pLst dNil))
  (pSeq (pFor (iAny (pCall fn_law_moves (aCons false (pVar 0) (aCons false (pC (.int 11)) (aCons false (pVar 2) (aCons false (pBin pMod false (pBin pFdiv false (pCall fn_law_at (aCons false (pVar 0) (aCons false (pC (.int 1)) aNil))) (pC (.int 4))) (pC (.int 6))) aNil)))))) t_law_L0
  g_law_L0)
  g_rest))))))) := rfl
  obtain ⟨z, a0, ew⟩ := ew
  have g : g_law (En (.sh (.list (ns.map .int))) .no .no .no .no .no .no) = some (E, .rt (.sh (.bool true))) := by
    rw [gl, seq_nx (hd_1 _ c1 a1 d1.2.2.1), seq_nx (hd_2 _ c1 many _ a1 hm d1.1 d1.2.1), seq_nx (hd_3 _ z many _ a0 ew), seq_nx (hd_4 _ _ _ _ ec), seq_nx (hd_5 _ _ _ _ _ es), seq_nx (hd_6 _ _ _ _ _), seq_nx (for_by (hd_7 _ _ _ _ _ _ c1 T a1 hT d1.2.2.1 d1.2.2.2 emv) lp)]
    exact k
  simp only [fn_law, fnB, List.length_cons, List.length_nil, Nat.zero_add, runB, startE, List.map_cons, List.map_nil, Nat.reduceSub, List.replicate, List.cons_append, List.nil_append, g, outS, Clean, Option.bind_some, flat, if_true]
theorem bck_bck (ms : List Mv) : bck (bck ms) = ms := by
  unfold bck
  rw [← List.map_reverse, List.reverse_reverse, List.map_map]
  rw [show (Mv.inv ∘ Mv.inv) = id from funext fun x => inv_inv x, List.map_id]
theorem bck_ok {ms : List Mv} (h : ∀ mv ∈ ms, MvL mv) : ∀ mv ∈ bck ms, MvL mv := fun mv hm => by
  obtain ⟨x, hx, rfl⟩ := List.mem_map.mp hm
  exact (h x (List.mem_reverse.mp hx)).inv
theorem movs_there (ms : List Mv) (c : List Pc) (h : ∀ mv ∈ ms, MvL mv) : movs (bck ms) (movs ms c) = NH.short c := by
  rw [← movs_append]
  exact movs_back ms c fun x hx => (h x hx).ok
theorem fld_movs (ms : List Mv) (c : List Pc) : fld ms (NH.short c) = movs ms c := rfl
theorem short_movs (ms : List Mv) (c : List Pc) : NH.short (movs ms c) = movs ms c := by
  have : ∀ (l : List Mv) (r : List Pc), NH.short r = r → NH.short (fld l r) = fld l r := fun l => by
    induction l with
    | nil => intro r h; exact h
    | cons mv l ih => intro r _; exact ih _ (NH.short_short _)
  exact this ms _ (NH.short_short c)
theorem pv_law (ns : List Int) (hl : ns.length ≤ 63) : fn_law [.list (ns.map .int)] = some (.sh (.bool true)) := by
  obtain ⟨many, hm1, hm2, hm3⟩ : ∃ many : Nat, ((ns.getD 1 0 / 24 % 8 = 6 ∧ (many : Int) = 26) ∨ (ns.getD 1 0 / 24 % 8 ≠ 6 ∧ (many : Int) = 2 + ns.getD 1 0 % 4)) ∧ 2 ≤ many ∧ many ≤ 26 := by
    by_cases h : ns.getD 1 0 / 24 % 8 = 6
    · exact ⟨26, Or.inl ⟨h, rfl⟩, by decide, by decide⟩
    · have m0 := Int.emod_nonneg (ns.getD 1 0) (show (4 : Int) ≠ 0 by decide)
      have m1 := Int.emod_lt_of_pos (ns.getD 1 0) (show (0 : Int) < 4 by decide)
      exact ⟨(2 + ns.getD 1 0 % 4).toNat, Or.inr ⟨h, by omega⟩, by omega, by omega⟩
  obtain ⟨w, ew, w1, w2, w3⟩ := pv_law_nailsL (ns.getD 0 0) many hm3
  have w4 : ∀ a ∈ w, a < 128 := fun a ha => by have := (w2 a ha).2; omega
  obtain ⟨c, ec, lc, kc⟩ := pv_law_cord ns w (by omega) (by omega) w4 2 12 (by decide) (by decide)
  have t0 := Int.emod_nonneg (ns.getD 1 0 / 4) (show (6 : Int) ≠ 0 by decide)
  have t1 := Int.emod_lt_of_pos (ns.getD 1 0 / 4) (show (0 : Int) < 6 by decide)
  obtain ⟨T, hT⟩ : ∃ T : Nat, ns.getD 1 0 / 4 % 6 = T := ⟨(ns.getD 1 0 / 4 % 6).toNat, by omega⟩
  obtain ⟨mv0, em0, lm0, km0⟩ := pv_law_moves ns 11 (by decide) w (by omega) (by omega) w3 T (by omega)
  have es := pv_law_short c (by omega) kc.n
  have nc : NailsOk (NH.short c) := nails_short kc.n
  have ls : (NH.short c).length ≤ 300 := Nat.le_trans (NH.short_len c) (by omega)
  obtain ⟨ms, a, lp, m1, m2, m3⟩ := pl_law (.sh (.list (ns.map .int))) (.sh (.int many)) (.ow (w.map stD)) (.ow (c.map pcD)) .no .no .no .no mv0 [] (NH.short c) .no nc ls (fun mv hmv => mvL_of w2 (km0 mv hmv)) (by simp; omega)
  have b1 := bck_ok m1
  have lb : (bck ms).length = ms.length := by simp [bck]
  rw [fld_movs] at lp
  have nm : NailsOk (movs ms c) := fld_nails ms m1 nc
  have lm : (movs ms c).length ≤ 300 := fld_len ms m2 ls
  have a0 := pv_law_at ns 0
  have a1 := pv_law_at ns 1
  simp only [Int.natCast_zero, Int.natCast_one] at a0 a1
  rw [show ((2 : Nat) : Int) = 2 from rfl, show ((12 : Nat) : Int) = 12 from rfl] at ec
  rw [show ((11 : Nat) : Int) = 11 from rfl] at em0
  have q := dEq_cord nc nc
  rw [decide_eq_true rfl] at q
  have em : fitsB (movs ms c) (bck ms) = true → ∃ s1 L1 s2, (s1 = .ow L1 ∨ s1 = .br (.list L1)) ∧ fn_moved [.list (c.map pcD), .list (ms.map mvD)] = some s1 ∧ (s2 = .ow ((NH.short c).map pcD) ∨ s2 = .br (.list ((NH.short c).map pcD))) ∧ fn_moved [.list L1, .list ((bck ms).map mvD)] = some s2 := fun hf => by
    obtain ⟨s1, h1, e1⟩ := pv_moved c ms (by omega) m1 m2
    obtain ⟨s2, h2, e2⟩ := pv_moved (movs ms c) (bck ms) lm b1 (by rw [short_movs]; exact (fitsB_iff _ _).mp hf)
    rw [movs_there ms c m1] at h2
    exact ⟨s1, _, s2, h1, e1, h2, e2⟩
  have fin : fitsB (NH.short c) (bck ms) = true → ∃ E, g_fin [.sh (.list (ns.map .int)), .sh (.int many), .ow (w.map stD), .ow (c.map pcD), .ow ((movs ms c).map pcD), .ow (ms.map mvD), a, .ow (ms.map mvD), .ow ((bck ms).map mvD), .ow ((NH.short c).map pcD), .no] = some (E, .rt (.sh (.bool true))) := fun hf => by
    have hf' := (fitsB_iff _ _).mp hf
    obtain ⟨y, hy, e0⟩ := pv_moved c (bck ms) (by omega) b1 hf'
    have nb : NailsOk (movs (bck ms) c) := fld_nails (bck ms) b1 nc
    have lb2 : (movs (bck ms) c).length ≤ 300 := fld_len (bck ms) hf' ls
    refine st_fin _ _ _ a y _ _ _ _ _ _ (by simp; omega) (hy.imp (fun z => ⟨z, trivial⟩) id) e0 _ (pv_fits _ ms nb lb2 m1) (fun h3 => ?_) q
    obtain ⟨s2, h2, e2⟩ := pv_moved (movs (bck ms) c) ms lb2 m1 (by rw [short_movs]; exact (fitsB_iff _ _).mp h3)
    have := movs_there (bck ms) c b1
    rw [bck_bck] at this
    rw [this] at h2
    exact ⟨s2, h2, e2⟩
  obtain ⟨E, k⟩ := st_end (.sh (.list (ns.map .int))) (.sh (.int many)) (.ow (w.map stD)) a _ _ _ _ _ _ _ (by simp; omega) es (pv_fits _ _ nm lm b1) em q (pv_fits _ _ nc ls b1) fin
  have eb2 := pv_back_moves (bck ms) b1 (by omega)
  rw [bck_bck] at eb2
  have r1 := st_rest1 (.sh (.list (ns.map .int))) (.sh (.int many)) (.ow (w.map stD)) a (c.map pcD) ((movs ms c).map pcD) ms (bck ms) (by omega) (by omega) _ (pv_back_moves ms m1 (by omega)) (pv_back_due ms (by omega)) eb2 (dEq_mv b1) (dEq_mv m1) k
  rw [List.nil_append] at lp
  exact st_head ns w c mv0 ms many (ns.getD 1 0) T a _ E a1 hm1 (by decide) ⟨_, a0, ew⟩ ec es hT em0 lp r1
end Nhk72
namespace Nhk72
open PySem L2 Nh PL
theorem all_mk {l : PySem.W.OpenLaw} {w : World} {K : PySem.W.Frag} {h : Heap} {mg : Str → Option Value} {fa f1 f2 f3 f4 f5 f6 f7 f8 f9 f10 f11 f12 f13 f14 f15 f16 f17 f18 f19 f20 f21 f22 f23 f24 f25 f26 f27 f28 f29 f30 f31 : Addr} (X : K.In h) (G : h.Ns mainGlobals mg) (hfa : mg "law" = some (.ref fa))
    {od1 od2 od3 od4 od5 od6 od7 od8 od9 od10 od11 od12 od13 od14 od15 od16 od17 od18 od19 od20 od21 od22 od23 od24 od25 od26 od27 od28 od29 od30 od31 an1 an2 an3 an4 an5 an6 an7 an8 an9 an10 an11 an12 an13 an14 an15 an16 an17 an18 an19 an20 an21 an22 an23 an24 an25 an26 an27 an28 an29 an30 an31 : Option Addr} {sl1 sl2 sl3 sl4 sl5 sl6 sl7 sl8 sl9 sl10 sl11 sl12 sl13 sl14 sl15 sl16 sl17 sl18 sl19 sl20 sl21 sl22 sl23 sl24 sl25 sl26 sl27 sl28 sl29 sl30 sl31 : Array (Option Value)} {oc1 kV1 dc1 pm1 cd1 ct1 oc2 kV2 dc2 pm2 cd2 ct2 oc3 kV3 dc3 pm3 cd3 ct3 oc4 kV4 dc4 pm4 cd4 ct4 oc5 kV5 dc5 pm5 cd5 ct5 oc6 kV6 dc6 pm6 cd6 ct6 oc7 kV7 dc7 pm7 cd7 ct7 oc8 kV8 dc8 pm8 cd8 ct8 oc9 kV9 dc9 pm9 cd9 ct9 oc10 kV10 dc10 pm10 cd10 ct10 oc11 kV11 dc11 pm11 cd11 ct11 oc12 kV12 dc12 pm12 cd12 ct12 oc13 kV13 dc13 pm13 cd13 ct13 oc14 kV14 dc14 pm14 cd14 ct14 oc15 kV15 dc15 pm15 cd15 ct15 oc16 kV16 dc16 pm16 cd16 ct16 oc17 kV17 dc17 pm17 cd17 ct17 oc18 kV18 dc18 pm18 cd18 ct18 oc19 kV19 dc19 pm19 cd19 ct19 oc20 kV20 dc20 pm20 cd20 ct20 oc21 kV21 dc21 pm21 cd21 ct21 oc22 kV22 dc22 pm22 cd22 ct22 oc23 kV23 dc23 pm23 cd23 ct23 oc24 kV24 dc24 pm24 cd24 ct24 oc25 kV25 dc25 pm25 cd25 ct25 oc26 kV26 dc26 pm26 cd26 ct26 oc27 kV27 dc27 pm27 cd27 ct27 oc28 kV28 dc28 pm28 cd28 ct28 oc29 kV29 dc29 pm29 cd29 ct29 oc30 kV30 dc30 pm30 cd30 ct30 oc31 kV31 dc31 pm31 cd31 ct31 : Value}
    (a1 : PySem.W.nsIn K mainGlobals "is_nail" = some (some (.ref f1))) (l1 : K.lookup f1 = some ⟨oc1, od1, .func (PySem.W.fnOf "is_nail" "is_nail" (defArgs s_is_nail) (defBody s_is_nail) (defScope s_is_nail) .none kV1 dc1 pm1 an1 cd1 ct1), sl1⟩) (c1 : PySem.W.codeIn K cd1 "is_nail" = true) (k1 : PySem.W.keepIn K (.ref f1) = true)
    (a2 : PySem.W.nsIn K mainGlobals "is_whole" = some (some (.ref f2))) (l2 : K.lookup f2 = some ⟨oc2, od2, .func (PySem.W.fnOf "is_whole" "is_whole" (defArgs s_is_whole) (defBody s_is_whole) (defScope s_is_whole) .none kV2 dc2 pm2 an2 cd2 ct2), sl2⟩) (c2 : PySem.W.codeIn K cd2 "is_whole" = true) (k2 : PySem.W.keepIn K (.ref f2) = true)
    (a3 : PySem.W.nsIn K mainGlobals "short_form" = some (some (.ref f3))) (l3 : K.lookup f3 = some ⟨oc3, od3, .func (PySem.W.fnOf "short_form" "short_form" (defArgs s_short_form) (defBody s_short_form) (defScope s_short_form) .none kV3 dc3 pm3 an3 cd3 ct3), sl3⟩) (c3 : PySem.W.codeIn K cd3 "short_form" = true) (k3 : PySem.W.keepIn K (.ref f3) = true)
    (a4 : PySem.W.nsIn K mainGlobals "contrary" = some (some (.ref f4))) (l4 : K.lookup f4 = some ⟨oc4, od4, .func (PySem.W.fnOf "contrary" "contrary" (defArgs s_contrary) (defBody s_contrary) (defScope s_contrary) .none kV4 dc4 pm4 an4 cd4 ct4), sl4⟩) (c4 : PySem.W.codeIn K cd4 "contrary" = true) (k4 : PySem.W.keepIn K (.ref f4) = true)
    (a5 : PySem.W.nsIn K mainGlobals "repeated" = some (some (.ref f5))) (l5 : K.lookup f5 = some ⟨oc5, od5, .func (PySem.W.fnOf "repeated" "repeated" (defArgs s_repeated) (defBody s_repeated) (defScope s_repeated) .none kV5 dc5 pm5 an5 cd5 ct5), sl5⟩) (c5 : PySem.W.codeIn K cd5 "repeated" = true) (k5 : PySem.W.keepIn K (.ref f5) = true)
    (a6 : PySem.W.nsIn K mainGlobals "are_two_nails" = some (some (.ref f6))) (l6 : K.lookup f6 = some ⟨oc6, od6, .func (PySem.W.fnOf "are_two_nails" "are_two_nails" (defArgs s_are_two_nails) (defBody s_are_two_nails) (defScope s_are_two_nails) .none kV6 dc6 pm6 an6 cd6 ct6), sl6⟩) (c6 : PySem.W.codeIn K cd6 "are_two_nails" = true) (k6 : PySem.W.keepIn K (.ref f6) = true)
    (a7 : PySem.W.nsIn K mainGlobals "is_move" = some (some (.ref f7))) (l7 : K.lookup f7 = some ⟨oc7, od7, .func (PySem.W.fnOf "is_move" "is_move" (defArgs s_is_move) (defBody s_is_move) (defScope s_is_move) .none kV7 dc7 pm7 an7 cd7 ct7), sl7⟩) (c7 : PySem.W.codeIn K cd7 "is_move" = true) (k7 : PySem.W.keepIn K (.ref f7) = true)
    (a8 : PySem.W.nsIn K mainGlobals "check_moves" = some (some (.ref f8))) (l8 : K.lookup f8 = some ⟨oc8, od8, .func (PySem.W.fnOf "check_moves" "check_moves" (defArgs s_check_moves) (defBody s_check_moves) (defScope s_check_moves) .none kV8 dc8 pm8 an8 cd8 ct8), sl8⟩) (c8 : PySem.W.codeIn K cd8 "check_moves" = true) (k8 : PySem.W.keepIn K (.ref f8) = true)
    (a9 : PySem.W.nsIn K mainGlobals "pieces_beside" = some (some (.ref f9))) (l9 : K.lookup f9 = some ⟨oc9, od9, .func (PySem.W.fnOf "pieces_beside" "pieces_beside" (defArgs s_pieces_beside) (defBody s_pieces_beside) (defScope s_pieces_beside) .none kV9 dc9 pm9 an9 cd9 ct9), sl9⟩) (c9 : PySem.W.codeIn K cd9 "pieces_beside" = true) (k9 : PySem.W.keepIn K (.ref f9) = true)
    (a10 : PySem.W.nsIn K mainGlobals "turned" = some (some (.ref f10))) (l10 : K.lookup f10 = some ⟨oc10, od10, .func (PySem.W.fnOf "turned" "turned" (defArgs s_turned) (defBody s_turned) (defScope s_turned) .none kV10 dc10 pm10 an10 cd10 ct10), sl10⟩) (c10 : PySem.W.codeIn K cd10 "turned" = true) (k10 : PySem.W.keepIn K (.ref f10) = true)
    (a11 : PySem.W.nsIn K mainGlobals "changed" = some (some (.ref f11))) (l11 : K.lookup f11 = some ⟨oc11, od11, .func (PySem.W.fnOf "changed" "changed" (defArgs s_changed) (defBody s_changed) (defScope s_changed) .none kV11 dc11 pm11 an11 cd11 ct11), sl11⟩) (c11 : PySem.W.codeIn K cd11 "changed" = true) (k11 : PySem.W.keepIn K (.ref f11) = true)
    (a12 : PySem.W.nsIn K mainGlobals "slid" = some (some (.ref f12))) (l12 : K.lookup f12 = some ⟨oc12, od12, .func (PySem.W.fnOf "slid" "slid" (defArgs s_slid) (defBody s_slid) (defScope s_slid) .none kV12 dc12 pm12 an12 cd12 ct12), sl12⟩) (c12 : PySem.W.codeIn K cd12 "slid" = true) (k12 : PySem.W.keepIn K (.ref f12) = true)
    (a13 : PySem.W.nsIn K mainGlobals "moved_once" = some (some (.ref f13))) (l13 : K.lookup f13 = some ⟨oc13, od13, .func (PySem.W.fnOf "moved_once" "moved_once" (defArgs s_moved_once) (defBody s_moved_once) (defScope s_moved_once) .none kV13 dc13 pm13 an13 cd13 ct13), sl13⟩) (c13 : PySem.W.codeIn K cd13 "moved_once" = true) (k13 : PySem.W.keepIn K (.ref f13) = true)
    (a14 : PySem.W.nsIn K mainGlobals "moved" = some (some (.ref f14))) (l14 : K.lookup f14 = some ⟨oc14, od14, .func (PySem.W.fnOf "moved" "moved" (defArgs s_moved) (defBody s_moved) (defScope s_moved) .none kV14 dc14 pm14 an14 cd14 ct14), sl14⟩) (c14 : PySem.W.codeIn K cd14 "moved" = true) (k14 : PySem.W.keepIn K (.ref f14) = true)
    (a15 : PySem.W.nsIn K mainGlobals "back_move" = some (some (.ref f15))) (l15 : K.lookup f15 = some ⟨oc15, od15, .func (PySem.W.fnOf "back_move" "back_move" (defArgs s_back_move) (defBody s_back_move) (defScope s_back_move) .none kV15 dc15 pm15 an15 cd15 ct15), sl15⟩) (c15 : PySem.W.codeIn K cd15 "back_move" = true) (k15 : PySem.W.keepIn K (.ref f15) = true)
    (a16 : PySem.W.nsIn K mainGlobals "back_moves" = some (some (.ref f16))) (l16 : K.lookup f16 = some ⟨oc16, od16, .func (PySem.W.fnOf "back_moves" "back_moves" (defArgs s_back_moves) (defBody s_back_moves) (defScope s_back_moves) .none kV16 dc16 pm16 an16 cd16 ct16), sl16⟩) (c16 : PySem.W.codeIn K cd16 "back_moves" = true) (k16 : PySem.W.keepIn K (.ref f16) = true)
    (a17 : PySem.W.nsIn K mainGlobals "_law_at" = some (some (.ref f17))) (l17 : K.lookup f17 = some ⟨oc17, od17, .func (PySem.W.fnOf "_law_at" "_law_at" (defArgs s_law_at) (defBody s_law_at) (defScope s_law_at) .none kV17 dc17 pm17 an17 cd17 ct17), sl17⟩) (c17 : PySem.W.codeIn K cd17 "_law_at" = true) (k17 : PySem.W.keepIn K (.ref f17) = true)
    (a18 : PySem.W.nsIn K mainGlobals "_law_stir" = some (some (.ref f18))) (l18 : K.lookup f18 = some ⟨oc18, od18, .func (PySem.W.fnOf "_law_stir" "_law_stir" (defArgs s_law_stir) (defBody s_law_stir) (defScope s_law_stir) .none kV18 dc18 pm18 an18 cd18 ct18), sl18⟩) (c18 : PySem.W.codeIn K cd18 "_law_stir" = true) (k18 : PySem.W.keepIn K (.ref f18) = true)
    (a19 : PySem.W.nsIn K mainGlobals "_law_nails" = some (some (.ref f19))) (l19 : K.lookup f19 = some ⟨oc19, od19, .func (PySem.W.fnOf "_law_nails" "_law_nails" (defArgs s_law_nails) (defBody s_law_nails) (defScope s_law_nails) .none kV19 dc19 pm19 an19 cd19 ct19), sl19⟩) (c19 : PySem.W.codeIn K cd19 "_law_nails" = true) (k19 : PySem.W.keepIn K (.ref f19) = true)
    (a20 : PySem.W.nsIn K mainGlobals "_law_back" = some (some (.ref f20))) (l20 : K.lookup f20 = some ⟨oc20, od20, .func (PySem.W.fnOf "_law_back" "_law_back" (defArgs s_law_back) (defBody s_law_back) (defScope s_law_back) .none kV20 dc20 pm20 an20 cd20 ct20), sl20⟩) (c20 : PySem.W.codeIn K cd20 "_law_back" = true) (k20 : PySem.W.keepIn K (.ref f20) = true)
    (a21 : PySem.W.nsIn K mainGlobals "_law_turns" = some (some (.ref f21))) (l21 : K.lookup f21 = some ⟨oc21, od21, .func (PySem.W.fnOf "_law_turns" "_law_turns" (defArgs s_law_turns) (defBody s_law_turns) (defScope s_law_turns) .none kV21 dc21 pm21 an21 cd21 ct21), sl21⟩) (c21 : PySem.W.codeIn K cd21 "_law_turns" = true) (k21 : PySem.W.keepIn K (.ref f21) = true)
    (a22 : PySem.W.nsIn K mainGlobals "_law_by_digits" = some (some (.ref f22))) (l22 : K.lookup f22 = some ⟨oc22, od22, .func (PySem.W.fnOf "_law_by_digits" "_law_by_digits" (defArgs s_law_by_digits) (defBody s_law_by_digits) (defScope s_law_by_digits) .none kV22 dc22 pm22 an22 cd22 ct22), sl22⟩) (c22 : PySem.W.codeIn K cd22 "_law_by_digits" = true) (k22 : PySem.W.keepIn K (.ref f22) = true)
    (a23 : PySem.W.nsIn K mainGlobals "_law_built" = some (some (.ref f23))) (l23 : K.lookup f23 = some ⟨oc23, od23, .func (PySem.W.fnOf "_law_built" "_law_built" (defArgs s_law_built) (defBody s_law_built) (defScope s_law_built) .none kV23 dc23 pm23 an23 cd23 ct23), sl23⟩) (c23 : PySem.W.codeIn K cd23 "_law_built" = true) (k23 : PySem.W.keepIn K (.ref f23) = true)
    (a24 : PySem.W.nsIn K mainGlobals "_law_cord" = some (some (.ref f24))) (l24 : K.lookup f24 = some ⟨oc24, od24, .func (PySem.W.fnOf "_law_cord" "_law_cord" (defArgs s_law_cord) (defBody s_law_cord) (defScope s_law_cord) .none kV24 dc24 pm24 an24 cd24 ct24), sl24⟩) (c24 : PySem.W.codeIn K cd24 "_law_cord" = true) (k24 : PySem.W.keepIn K (.ref f24) = true)
    (a25 : PySem.W.nsIn K mainGlobals "_law_short" = some (some (.ref f25))) (l25 : K.lookup f25 = some ⟨oc25, od25, .func (PySem.W.fnOf "_law_short" "_law_short" (defArgs s_law_short) (defBody s_law_short) (defScope s_law_short) .none kV25 dc25 pm25 an25 cd25 ct25), sl25⟩) (c25 : PySem.W.codeIn K cd25 "_law_short" = true) (k25 : PySem.W.keepIn K (.ref f25) = true)
    (a26 : PySem.W.nsIn K mainGlobals "_law_one_move" = some (some (.ref f26))) (l26 : K.lookup f26 = some ⟨oc26, od26, .func (PySem.W.fnOf "_law_one_move" "_law_one_move" (defArgs s_law_one_move) (defBody s_law_one_move) (defScope s_law_one_move) .none kV26 dc26 pm26 an26 cd26 ct26), sl26⟩) (c26 : PySem.W.codeIn K cd26 "_law_one_move" = true) (k26 : PySem.W.keepIn K (.ref f26) = true)
    (a27 : PySem.W.nsIn K mainGlobals "_law_moves" = some (some (.ref f27))) (l27 : K.lookup f27 = some ⟨oc27, od27, .func (PySem.W.fnOf "_law_moves" "_law_moves" (defArgs s_law_moves) (defBody s_law_moves) (defScope s_law_moves) .none kV27 dc27 pm27 an27 cd27 ct27), sl27⟩) (c27 : PySem.W.codeIn K cd27 "_law_moves" = true) (k27 : PySem.W.keepIn K (.ref f27) = true)
    (a28 : PySem.W.nsIn K mainGlobals "_law_wide" = some (some (.ref f28))) (l28 : K.lookup f28 = some ⟨oc28, od28, .func (PySem.W.fnOf "_law_wide" "_law_wide" (defArgs s_law_wide) (defBody s_law_wide) (defScope s_law_wide) .none kV28 dc28 pm28 an28 cd28 ct28), sl28⟩) (c28 : PySem.W.codeIn K cd28 "_law_wide" = true) (k28 : PySem.W.keepIn K (.ref f28) = true)
    (a29 : PySem.W.nsIn K mainGlobals "_law_back_due" = some (some (.ref f29))) (l29 : K.lookup f29 = some ⟨oc29, od29, .func (PySem.W.fnOf "_law_back_due" "_law_back_due" (defArgs s_law_back_due) (defBody s_law_back_due) (defScope s_law_back_due) .none kV29 dc29 pm29 an29 cd29 ct29), sl29⟩) (c29 : PySem.W.codeIn K cd29 "_law_back_due" = true) (k29 : PySem.W.keepIn K (.ref f29) = true)
    (a30 : PySem.W.nsIn K mainGlobals "_law_fits" = some (some (.ref f30))) (l30 : K.lookup f30 = some ⟨oc30, od30, .func (PySem.W.fnOf "_law_fits" "_law_fits" (defArgs s_law_fits) (defBody s_law_fits) (defScope s_law_fits) .none kV30 dc30 pm30 an30 cd30 ct30), sl30⟩) (c30 : PySem.W.codeIn K cd30 "_law_fits" = true) (k30 : PySem.W.keepIn K (.ref f30) = true)
    (a31 : PySem.W.nsIn K mainGlobals "law" = some (some (.ref f31))) (l31 : K.lookup f31 = some ⟨oc31, od31, .func (PySem.W.fnOf "law" "law" (defArgs s_law) (defBody s_law) (defScope s_law) .none kV31 dc31 pm31 an31 cd31 ct31), sl31⟩) (c31 : PySem.W.codeIn K cd31 "law" = true) (k31 : PySem.W.keepIn K (.ref f31) = true)
    {t_LONGEST : Tok} (g_LONGEST : PySem.W.nsIn K mainGlobals "LONGEST" = some (some (.int 4000 t_LONGEST)))
    (z1 : PySem.W.nsIn K mainGlobals "len" = some none)
    (z2 : PySem.W.nsIn K mainGlobals "range" = some none)
    (z3 : PySem.W.nsIn K mainGlobals "abs" = some none)
    (z4 : PySem.W.nsIn K mainGlobals "min" = some none)
    (z5 : PySem.W.nsIn K mainGlobals "max" = some none)
    (z6 : PySem.W.nsIn K mainGlobals "reversed" = some none)
    (z7 : PySem.W.nsIn K mainGlobals "enumerate" = some none)
    (z8 : PySem.W.nsIn K mainGlobals "isinstance" = some none)
    (z9 : PySem.W.nsIn K mainGlobals "list" = some none)
    (z10 : PySem.W.nsIn K mainGlobals "tuple" = some none)
    (z11 : PySem.W.nsIn K mainGlobals "str" = some none)
    (z12 : PySem.W.nsIn K mainGlobals "int" = some none)
    (z13 : PySem.W.nsIn K mainGlobals "bool" = some none)
    (z14 : PySem.W.nsIn K mainGlobals "sorted" = some none)
    (z15 : PySem.W.nsIn K mainGlobals "zip" = some none)
    (z16 : PySem.W.nsIn K mainGlobals "sum" = some none)
    (z17 : PySem.W.nsIn K mainGlobals "any" = some none)
    (z18 : PySem.W.nsIn K mainGlobals "all" = some none)
    (z19 : PySem.W.nsIn K mainGlobals "set" = some none)
    (z20 : PySem.W.nsIn K mainGlobals "dict" = some none) :
    ∃ fd : FuncData, (∀ (s : Shared) (v : Value), BindsTo s fd ⟨[v], []⟩ [("_law_script", v)]) ∧ ∀ base : Heap, K.In base → base.Ns mainGlobals mg → FnOk l.prog w K mg base CX0 6 fa fd ["_law_script"] (spP K fn_law) := by
  have e := hfa.symm.trans (PySem.W.mg_of X G a31)
  cases e
  have F0 := fun_mk (st := s_law) l31 c31 k31
  have B : Bn mg := bn_mk X G z1 z2 z3 z4 z5 z6 z7 z8 z9 z10 z11 z12 z13 z14 z15 z16 z17 z18 z19 z20
  have G_LONGEST := PySem.W.mg_of X G g_LONGEST
  have e_is_nail : Def K mg "is_nail" s_is_nail ["thing"] := def_mk X G a1 l1 c1 k1 fun _ _ _ _ _ _ us hl => match us, hl with | [_], _ => rfl
  have e_is_whole : Def K mg "is_whole" s_is_whole ["thing"] := def_mk X G a2 l2 c2 k2 fun _ _ _ _ _ _ us hl => match us, hl with | [_], _ => rfl
  have e_short_form : Def K mg "short_form" s_short_form ["cord"] := def_mk X G a3 l3 c3 k3 fun _ _ _ _ _ _ us hl => match us, hl with | [_], _ => rfl
  have e_contrary : Def K mg "contrary" s_contrary ["cord"] := def_mk X G a4 l4 c4 k4 fun _ _ _ _ _ _ us hl => match us, hl with | [_], _ => rfl
  have e_repeated : Def K mg "repeated" s_repeated ["cord", "times"] := def_mk X G a5 l5 c5 k5 fun _ _ _ _ _ _ us hl => match us, hl with | [_, _], _ => rfl
  have e_are_two_nails : Def K mg "are_two_nails" s_are_two_nails ["one", "other"] := def_mk X G a6 l6 c6 k6 fun _ _ _ _ _ _ us hl => match us, hl with | [_, _], _ => rfl
  have e_is_move : Def K mg "is_move" s_is_move ["thing"] := def_mk X G a7 l7 c7 k7 fun _ _ _ _ _ _ us hl => match us, hl with | [_], _ => rfl
  have e_check_moves : Def K mg "check_moves" s_check_moves ["moves"] := def_mk X G a8 l8 c8 k8 fun _ _ _ _ _ _ us hl => match us, hl with | [_], _ => rfl
  have e_pieces_beside : Def K mg "pieces_beside" s_pieces_beside ["runs", "move"] := def_mk X G a9 l9 c9 k9 fun _ _ _ _ _ _ us hl => match us, hl with | [_, _], _ => rfl
  have e_turned : Def K mg "turned" s_turned ["runs", "turning"] := def_mk X G a10 l10 c10 k10 fun _ _ _ _ _ _ us hl => match us, hl with | [_, _], _ => rfl
  have e_changed : Def K mg "changed" s_changed ["runs", "one", "other"] := def_mk X G a11 l11 c11 k11 fun _ _ _ _ _ _ us hl => match us, hl with | [_, _, _], _ => rfl
  have e_slid : Def K mg "slid" s_slid ["runs", "sliding", "other", "times"] := def_mk X G a12 l12 c12 k12 fun _ _ _ _ _ _ us hl => match us, hl with | [_, _, _, _], _ => rfl
  have e_moved_once : Def K mg "moved_once" s_moved_once ["runs", "move"] := def_mk X G a13 l13 c13 k13 fun _ _ _ _ _ _ us hl => match us, hl with | [_, _], _ => rfl
  have e_moved : Def K mg "moved" s_moved ["cord", "moves"] := def_mk X G a14 l14 c14 k14 fun _ _ _ _ _ _ us hl => match us, hl with | [_, _], _ => rfl
  have e_back_move : Def K mg "back_move" s_back_move ["move"] := def_mk X G a15 l15 c15 k15 fun _ _ _ _ _ _ us hl => match us, hl with | [_], _ => rfl
  have e_back_moves : Def K mg "back_moves" s_back_moves ["moves"] := def_mk X G a16 l16 c16 k16 fun _ _ _ _ _ _ us hl => match us, hl with | [_], _ => rfl
  have e_law_at : Def K mg "_law_at" s_law_at ["_law_script", "_law_k"] := def_mk X G a17 l17 c17 k17 fun _ _ _ _ _ _ us hl => match us, hl with | [_, _], _ => rfl
  have e_law_stir : Def K mg "_law_stir" s_law_stir ["_law_cell", "_law_k"] := def_mk X G a18 l18 c18 k18 fun _ _ _ _ _ _ us hl => match us, hl with | [_, _], _ => rfl
  have e_law_nails : Def K mg "_law_nails" s_law_nails ["_law_cell", "_law_many"] := def_mk X G a19 l19 c19 k19 fun _ _ _ _ _ _ us hl => match us, hl with | [_, _], _ => rfl
  have e_law_back : Def K mg "_law_back" s_law_back ["_law_cord_here"] := def_mk X G a20 l20 c20 k20 fun _ _ _ _ _ _ us hl => match us, hl with | [_], _ => rfl
  have e_law_turns : Def K mg "_law_turns" s_law_turns ["_law_cell"] := def_mk X G a21 l21 c21 k21 fun _ _ _ _ _ _ us hl => match us, hl with | [_], _ => rfl
  have e_law_by_digits : Def K mg "_law_by_digits" s_law_by_digits ["_law_cell", "_law_some", "_law_most"] := def_mk X G a22 l22 c22 k22 fun _ _ _ _ _ _ us hl => match us, hl with | [_, _, _], _ => rfl
  have e_law_built : Def K mg "_law_built" s_law_built ["_law_script", "_law_first", "_law_some", "_law_most"] := def_mk X G a23 l23 c23 k23 fun _ _ _ _ _ _ us hl => match us, hl with | [_, _, _, _], _ => rfl
  have e_law_cord : Def K mg "_law_cord" s_law_cord ["_law_script", "_law_first", "_law_some", "_law_most"] := def_mk X G a24 l24 c24 k24 fun _ _ _ _ _ _ us hl => match us, hl with | [_, _, _, _], _ => rfl
  have e_law_short : Def K mg "_law_short" s_law_short ["_law_cord_here"] := def_mk X G a25 l25 c25 k25 fun _ _ _ _ _ _ us hl => match us, hl with | [_], _ => rfl
  have e_law_one_move : Def K mg "_law_one_move" s_law_one_move ["_law_runs", "_law_move"] := def_mk X G a26 l26 c26 k26 fun _ _ _ _ _ _ us hl => match us, hl with | [_, _], _ => rfl
  have e_law_moves : Def K mg "_law_moves" s_law_moves ["_law_script", "_law_first", "_law_some", "_law_many"] := def_mk X G a27 l27 c27 k27 fun _ _ _ _ _ _ us hl => match us, hl with | [_, _, _, _], _ => rfl
  have e_law_wide : Def K mg "_law_wide" s_law_wide ["_law_runs", "_law_move"] := def_mk X G a28 l28 c28 k28 fun _ _ _ _ _ _ us hl => match us, hl with | [_, _], _ => rfl
  have e_law_back_due : Def K mg "_law_back_due" s_law_back_due ["_law_moves_here"] := def_mk X G a29 l29 c29 k29 fun _ _ _ _ _ _ us hl => match us, hl with | [_], _ => rfl
  have e_law_fits : Def K mg "_law_fits" s_law_fits ["_law_runs", "_law_moves_here"] := def_mk X G a30 l30 c30 k30 fun _ _ _ _ _ _ us hl => match us, hl with | [_, _], _ => rfl
  refine ⟨PySem.W.fnOf "law" "law" (defArgs s_law) (defBody s_law) (defScope s_law) .none kV31 dc31 pm31 an31 cd31 ct31, fun s v => .of_eq rfl, fun base _ _ => ?_⟩
  have D_is_nail := ok_is_nail (P := l.prog) (w := w) (base := base) e_is_nail B 
  have D_is_whole := ok_is_whole (P := l.prog) (w := w) (base := base) e_is_whole B 
  have D_short_form := ok_short_form (P := l.prog) (w := w) (base := base) e_short_form B 
  have D_contrary := ok_contrary (P := l.prog) (w := w) (base := base) e_contrary B 
  have D_repeated := ok_repeated (P := l.prog) (w := w) (base := base) e_repeated B D_contrary
  have D_are_two_nails := ok_are_two_nails (P := l.prog) (w := w) (base := base) e_are_two_nails B D_is_nail
  have D_is_move := ok_is_move (P := l.prog) (w := w) (base := base) e_is_move B D_is_nail D_are_two_nails D_is_whole
  have D_check_moves := ok_check_moves (P := l.prog) (w := w) (base := base) e_check_moves B D_is_move
  have D_pieces_beside := ok_pieces_beside (P := l.prog) (w := w) (base := base) e_pieces_beside B 
  have D_turned := ok_turned (P := l.prog) (w := w) (base := base) e_turned B 
  have D_changed := ok_changed (P := l.prog) (w := w) (base := base) e_changed B 
  have D_slid := ok_slid (P := l.prog) (w := w) (base := base) e_slid B D_repeated D_short_form
  have D_moved_once := ok_moved_once (P := l.prog) (w := w) (base := base) e_moved_once B G_LONGEST D_pieces_beside D_turned D_changed D_slid
  have D_moved := ok_moved (P := l.prog) (w := w) (base := base) e_moved B D_check_moves D_short_form D_moved_once
  have D_back_move := ok_back_move (P := l.prog) (w := w) (base := base) e_back_move B 
  have D_back_moves := ok_back_moves (P := l.prog) (w := w) (base := base) e_back_moves B D_check_moves D_back_move
  have D_law_at := ok_law_at (P := l.prog) (w := w) (base := base) e_law_at B 
  have D_law_stir := ok_law_stir (P := l.prog) (w := w) (base := base) e_law_stir B 
  have D_law_nails := ok_law_nails (P := l.prog) (w := w) (base := base) e_law_nails B 
  have D_law_back := ok_law_back (P := l.prog) (w := w) (base := base) e_law_back B 
  have D_law_turns := ok_law_turns (P := l.prog) (w := w) (base := base) e_law_turns B 
  have D_law_by_digits := ok_law_by_digits (P := l.prog) (w := w) (base := base) e_law_by_digits B 
  have D_law_built := ok_law_built (P := l.prog) (w := w) (base := base) e_law_built B D_law_at D_law_stir D_law_turns D_law_back
  have D_law_cord := ok_law_cord (P := l.prog) (w := w) (base := base) e_law_cord B D_law_at D_law_by_digits D_law_built
  have D_law_short := ok_law_short (P := l.prog) (w := w) (base := base) e_law_short B 
  have D_law_one_move := ok_law_one_move (P := l.prog) (w := w) (base := base) e_law_one_move B D_law_short
  have D_law_moves := ok_law_moves (P := l.prog) (w := w) (base := base) e_law_moves B D_law_at D_law_stir
  have D_law_wide := ok_law_wide (P := l.prog) (w := w) (base := base) e_law_wide B 
  have D_law_back_due := ok_law_back_due (P := l.prog) (w := w) (base := base) e_law_back_due B 
  have D_law_fits := ok_law_fits (P := l.prog) (w := w) (base := base) e_law_fits B D_law_wide D_law_one_move
  exact ok_law F0 B D_law_at D_law_nails D_law_cord D_law_short D_law_moves D_law_fits D_law_one_move D_back_moves D_law_back_due D_moved
theorem walk {l : PySem.W.OpenLaw} {q : Program} {loose : List Str} {XP : (Str → Option Value) → Heap → Prop} {YP : World → Heap → Prop} {d : DefRec} {K : Params → PySem.W.Frag} (hn : l.most = some 63) (hdf : d.params.defaults = [])
    (hY : ∀ (w : World) (h : Heap), YP w h → (K w.params).In h)
    (F : ∀ (w : World) (mg : Str → Option Value) (fa : Addr) (h : Heap), (K w.params).In h → h.Ns mainGlobals mg → mg d.name = some (.ref fa) →
      ∃ fd : FuncData, (∀ (s : Shared) (u : Value), BindsTo s fd ⟨[u], []⟩ [("_law_script", u)]) ∧ ∀ base : Heap, (K w.params).In base → base.Ns mainGlobals mg → FnOk l.prog w (K w.params) mg base CX0 6 fa fd ["_law_script"] (spP (K w.params) fn_law)) :
    PySem.W.WalkO q loose XP YP l.row.toRowW d [] (fun f vs => PySem.call f vs) :=
  L2.walk_of (n := 63) (k := 6) (x := "_law_script") (CX := fun _ => CX0) (sp := fun w => spP (K w.params) fn_law) hn (by decide) hdf ⟨rfl, by decide, by decide⟩ hY F (fun _ _ a ns hl _ hS => law_sp (pv_law ns hl) hS) fun _ _ _ _ _ z => z
end Nhk72
open PySem PySem.W PyProof.Rows
set_option maxRecDepth 100000 in
set_option maxHeartbeats 0 in
theorem PySem.Challenge.cw_nailhang_k72_there_and_back_holds : PySem.Challenge.rw_nailhang_k72_there_and_back.Holds := by
  w_on; o_law; k_head; (case hw => w_witness2)
  k_fill
  refine Nhk72.walk (l := PySem.Challenge.rw_nailhang_k72_there_and_back) rfl rfl (fun w h Y => PySem.W.kIn_of Y) ?F
  case F =>
    intro w mg fa h KX G hmg
    refine' Nhk72.all_mk KX G hmg ?a1 ?l1 ?c1 ?k1 ?a2 ?l2 ?c2 ?k2 ?a3 ?l3 ?c3 ?k3 ?a4 ?l4 ?c4 ?k4 ?a5 ?l5 ?c5 ?k5 ?a6 ?l6 ?c6 ?k6 ?a7 ?l7 ?c7 ?k7 ?a8 ?l8 ?c8 ?k8 ?a9 ?l9 ?c9 ?k9 ?a10 ?l10 ?c10 ?k10 ?a11 ?l11 ?c11 ?k11 ?a12 ?l12 ?c12 ?k12 ?a13 ?l13 ?c13 ?k13 ?a14 ?l14 ?c14 ?k14 ?a15 ?l15 ?c15 ?k15 ?a16 ?l16 ?c16 ?k16 ?a17 ?l17 ?c17 ?k17 ?a18 ?l18 ?c18 ?k18 ?a19 ?l19 ?c19 ?k19 ?a20 ?l20 ?c20 ?k20 ?a21 ?l21 ?c21 ?k21 ?a22 ?l22 ?c22 ?k22 ?a23 ?l23 ?c23 ?k23 ?a24 ?l24 ?c24 ?k24 ?a25 ?l25 ?c25 ?k25 ?a26 ?l26 ?c26 ?k26 ?a27 ?l27 ?c27 ?k27 ?a28 ?l28 ?c28 ?k28 ?a29 ?l29 ?c29 ?k29 ?a30 ?l30 ?c30 ?k30 ?a31 ?l31 ?c31 ?k31 ?g_LONGEST ?z1 ?z2 ?z3 ?z4 ?z5 ?z6 ?z7 ?z8 ?z9 ?z10 ?z11 ?z12 ?z13 ?z14 ?z15 ?z16 ?z17 ?z18 ?z19 ?z20
    (case a1 => k_is)
    (case l1 => k_is)
    (case c1 => k_is)
    (case k1 => k_is)
    (case a2 => k_is)
    (case l2 => k_is)
    (case c2 => k_is)
    (case k2 => k_is)
    (case a3 => k_is)
    (case l3 => k_is)
    (case c3 => k_is)
    (case k3 => k_is)
    (case a4 => k_is)
    (case l4 => k_is)
    (case c4 => k_is)
    (case k4 => k_is)
    (case a5 => k_is)
    (case l5 => k_is)
    (case c5 => k_is)
    (case k5 => k_is)
    (case a6 => k_is)
    (case l6 => k_is)
    (case c6 => k_is)
    (case k6 => k_is)
    (case a7 => k_is)
    (case l7 => k_is)
    (case c7 => k_is)
    (case k7 => k_is)
    (case a8 => k_is)
    (case l8 => k_is)
    (case c8 => k_is)
    (case k8 => k_is)
    (case a9 => k_is)
    (case l9 => k_is)
    (case c9 => k_is)
    (case k9 => k_is)
    (case a10 => k_is)
    (case l10 => k_is)
    (case c10 => k_is)
    (case k10 => k_is)
    (case a11 => k_is)
    (case l11 => k_is)
    (case c11 => k_is)
    (case k11 => k_is)
    (case a12 => k_is)
    (case l12 => k_is)
    (case c12 => k_is)
    (case k12 => k_is)
    (case a13 => k_is)
    (case l13 => k_is)
    (case c13 => k_is)
    (case k13 => k_is)
    (case a14 => k_is)
    (case l14 => k_is)
    (case c14 => k_is)
    (case k14 => k_is)
    (case a15 => k_is)
    (case l15 => k_is)
    (case c15 => k_is)
    (case k15 => k_is)
    (case a16 => k_is)
    (case l16 => k_is)
    (case c16 => k_is)
    (case k16 => k_is)
    (case a17 => k_is)
    (case l17 => k_is)
    (case c17 => k_is)
    (case k17 => k_is)
    (case a18 => k_is)
    (case l18 => k_is)
    (case c18 => k_is)
    (case k18 => k_is)
    (case a19 => k_is)
    (case l19 => k_is)
    (case c19 => k_is)
    (case k19 => k_is)
    (case a20 => k_is)
    (case l20 => k_is)
    (case c20 => k_is)
    (case k20 => k_is)
    (case a21 => k_is)
    (case l21 => k_is)
    (case c21 => k_is)
    (case k21 => k_is)
    (case a22 => k_is)
    (case l22 => k_is)
    (case c22 => k_is)
    (case k22 => k_is)
    (case a23 => k_is)
    (case l23 => k_is)
    (case c23 => k_is)
    (case k23 => k_is)
    (case a24 => k_is)
    (case l24 => k_is)
    (case c24 => k_is)
    (case k24 => k_is)
    (case a25 => k_is)
    (case l25 => k_is)
    (case c25 => k_is)
    (case k25 => k_is)
    (case a26 => k_is)
    (case l26 => k_is)
    (case c26 => k_is)
    (case k26 => k_is)
    (case a27 => k_is)
    (case l27 => k_is)
    (case c27 => k_is)
    (case k27 => k_is)
    (case a28 => k_is)
    (case l28 => k_is)
    (case c28 => k_is)
    (case k28 => k_is)
    (case a29 => k_is)
    (case l29 => k_is)
    (case c29 => k_is)
    (case k29 => k_is)
    (case a30 => k_is)
    (case l30 => k_is)
    (case c30 => k_is)
    (case k30 => k_is)
    (case a31 => k_is)
    (case l31 => k_is)
    (case c31 => k_is)
    (case k31 => k_is)
    (case g_LONGEST => k_is)
    (case z1 => k_is)
    (case z2 => k_is)
    (case z3 => k_is)
    (case z4 => k_is)
    (case z5 => k_is)
    (case z6 => k_is)
    (case z7 => k_is)
    (case z8 => k_is)
    (case z9 => k_is)
    (case z10 => k_is)
    (case z11 => k_is)
    (case z12 => k_is)
    (case z13 => k_is)
    (case z14 => k_is)
    (case z15 => k_is)
    (case z16 => k_is)
    (case z17 => k_is)
    (case z18 => k_is)
    (case z19 => k_is)
    (case z20 => k_is)
